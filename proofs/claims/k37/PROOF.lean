import PyProof.Rows.All
import Wide.All
import OpenK.AllK
import Wide.FinOn
import Lean
import PyProof.EqAt
import PyProof.EqKinds
import PyProof.TupleCall
import PySem.Challenge.RW_cablehouse_k37_numbers_kept
set_option Elab.async false
set_option linter.all false
set_option maxRecDepth 100000
namespace Hd
open PySem PySem.W PyProof.Rows
theorem keep3 {b1 b2 b3 a : Prop} (main : a) (hl : b1) (hw : b2) (hc : b3) : a := main
structure Top (r : Prop) where
  l1 : Prop
  l2 : Prop
  l3 : Prop
  h : Prop
  c : Prop
  go : l1 → l2 → l3 → h → c → r
/-- the same, what is seen in six parts -/
structure TopS (r : Prop) where
  l1 : Prop
  l2 : Prop
  l3 : Prop
  l4 : Prop
  l5 : Prop
  l6 : Prop
  l7 : Prop
  l8 : Prop
  h : Prop
  c : Prop
  go : l1 → l2 → l3 → l4 → l5 → l6 → l7 → l8 → h → c → r
/-- the same, what is left behind in two parts too -/
structure TopT (r : Prop) where
  l1 : Prop
  l2 : Prop
  l3 : Prop
  l4 : Prop
  l5 : Prop
  l6 : Prop
  l7 : Prop
  l8 : Prop
  l9 : Prop
  h : Prop
  c : Prop
  go : l1 → l2 → l3 → l4 → l5 → l6 → l7 → l8 → l9 → h → c → r
/-- a list that is seen, in two parts -/
theorem two {σ α β γ : Type} {x : World → OsState → Option σ} {as : List α} {f : σ → α → β} {h : σ → γ} {g : World → List β} {e : World → γ} (n : Nat)
    (h1 : ∀ w os, (x w os).map (fun s => (as.take n).map (f s)) = some ((g w).take n)) (h2 : ∀ w os, (x w os).map (fun s => ((as.drop n).map (f s), h s)) = some ((g w).drop n, e w)) : ∀ w os, (x w os).map (fun s => (as.map (f s), h s)) = some (g w, e w) := fun w os => by
  obtain ⟨s, e0, e1⟩ := Option.map_eq_some_iff.mp (h1 w os)
  have e2 := h2 w os
  rw [e0] at e2 ⊢
  have e2 := Option.some.inj e2
  simp only [Prod.mk.injEq] at e2
  refine congrArg some (Prod.ext ?_ e2.2)
  show as.map (f s) = g w
  rw [← List.take_append_drop n as, List.map_append, e1, e2.1, List.take_append_drop]
def tree : List Obj → Nat → BT → BT
  | [], _, t => t
  | o :: l, n, t => tree l (n + 1) (t.ins n o)
def goT (st : SharedT → Thread → Option (SharedT × Thread)) (ok : Thread → Bool) : Nat → SharedT → Thread → Option SharedT
  | 0, _, _ => none
  | n + 1, s, t => match through t with
    | true => some s
    | false => match ok t with
      | false => none
      | true => match st s t with
        | some (s', t') => goT st ok n s' t'
        | none => none
theorem goT_of {tb : String → Option Builtin} {p : Program} {w : World} {n₀ : Nat} {ann : Option Value} : ∀ {n : Nat} {s s' : SharedT} {t : Thread}, goT (stepT (denote tb) p w) (stepOk n₀ ann) n s t = some s' → topRun tb p w n₀ ann n s.abs t = some s'.abs
  | 0, _, _, _, h => nomatch h
  | n + 1, s, s', t, h => by
    unfold goT at h
    unfold topRun
    cases ht : through t with
    | true => rw [ht] at h; cases h; rfl
    | false =>
      rw [ht] at h
      cases hk : stepOk n₀ ann t with
      | false => rw [hk] at h; cases h
      | true =>
        rw [hk] at h
        cases hs : stepT (denote tb) p w s t with
        | none => rw [hs] at h; cases h
        | some r => obtain ⟨s₂, t₂⟩ := r; rw [hs] at h; rw [stepT_spec hs]; exact goT_of h
/-- the state behind the boot, its heap as a tree -/
noncomputable def boot (w : World) (os : OsState) : SharedT := ⟨tree (boot_heap w.params).objs.toList 0 .nil, (boot_heap w.params).objs.size, (boot_heap w.params).life, #[], boot_drawn, boot_toks, os⟩
/-- the run of the top behind the boot -/
noncomputable def ran (p : Program) (N : Nat) (w : World) (os : OsState) : Option SharedT := goT (stepT (denote treeTable) p w) (stepOk 11 (some (.ref 6))) N (boot w os) (topStub p)
theorem boot_tree (P : Params) : absHeap (tree (boot_heap P).objs.toList 0 .nil) (boot_heap P).objs.size (boot_heap P).life = boot_heap P := by kernel_rfl
theorem boot_size (P : Params) : ((boot_heap P).isNs mainGlobals, (boot_heap P).objs.size, (boot_heap P).nsMap mainGlobals "__annotations__") = (true, 11, some (.ref 6)) := by kernel_rfl
/-- what is seen behind the run, in six parts, each by itself -/
theorem six {σ α β γ δ ε ζ η θ ι : Type} {x : World → OsState → Option σ} {f1 : σ → α} {f2 : σ → β} {f3 : σ → γ} {f4 : σ → δ} {f5 : σ → ε} {f6 : σ → ζ} {f7 : σ → η} {f8 : σ → θ} {f9 : σ → ι} {g1 : α} {g2 : β} {g3 : γ} {g4 : δ} {g5 : ε} {g6 : ζ} {g7 : η} {g8 : θ} {g9 : ι}
    (h1 : ∀ w os, (x w os).map (fun s => f1 s) = some g1) (h2 : ∀ w os, (x w os).map (fun s => (f2 s, f3 s)) = some (g2, g3)) (h3 : ∀ w os, (x w os).map (fun s => (f4 s, f5 s)) = some (g4, g5)) (h4 : ∀ w os, (x w os).map (fun s => f6 s) = some g6)
    (h5 : ∀ w os, (x w os).map (fun s => (f7 s, f8 s)) = some (g7, g8)) (h6 : ∀ w os, (x w os).map (fun s => f9 s) = some g9) : ∀ w os, (x w os).map (fun s => (f1 s, f2 s, f3 s, f4 s, f5 s, f6 s, f7 s, f8 s, f9 s)) = some (g1, g2, g3, g4, g5, g6, g7, g8, g9) := fun w os => by
  obtain ⟨s, e, e1⟩ := Option.map_eq_some_iff.mp (h1 w os)
  have e2 := h2 w os
  have e3 := h3 w os
  have e4 := h4 w os
  have e5 := h5 w os
  have e6 := h6 w os
  rw [e] at e2 e3 e4 e5 e6 ⊢
  have e2 := Option.some.inj e2
  have e3 := Option.some.inj e3
  have e4 := Option.some.inj e4
  have e5 := Option.some.inj e5
  have e6 := Option.some.inj e6
  simp only [Prod.mk.injEq] at e2 e3 e5
  exact congrArg some (Prod.ext e1 (Prod.ext e2.1 (Prod.ext e2.2 (Prod.ext e3.1 (Prod.ext e3.2 (Prod.ext e4 (Prod.ext e5.1 (Prod.ext e5.2 e6))))))))
theorem left {p q : Program} {loose : List Str} {Xt : Shared → Bool} {α : Type} {Yf : Shared → α} {Ya : World → α} {N : Nat} {g0 : Bool}
    (e : opening p = plainProg p.main.scope.names) (hN : Nat.ble 600 N = true) (f : ∀ s, fenceModules? p s = some s)
    (r1 : ∀ w os, (ran p N w os).map (fun s => staticsOk (importedModules p.main.body) (boot_heap w.params) s.abs.heap && namesBound p s.abs.heap && gensDone s.abs && laidKept (boot_heap w.params) s.abs.heap) = some true)
    (r2 : ∀ w os, (ran p N w os).map (fun s => openSeen q loose (importedModules p.main.body) Xt g0 s.abs) = some (openGood q loose))
    (r3 : ∀ w os, (ran p N w os).map (fun s => Yf s.abs) = some (Ya w)) : LeftO p q loose Xt Yf Ya N g0 := fun w => by
  obtain ⟨⟨h, gs, d, k, os⟩, e, e'⟩ := Option.map_eq_some_iff.mp (boot_open e hN f w)
  obtain ⟨rfl, rfl, rfl, rfl⟩ : h = boot_heap w.params ∧ gs = #[] ∧ d = boot_drawn ∧ k = boot_toks := by simpa using e'
  obtain ⟨z1, z2, z3⟩ : _ ∧ _ ∧ _ := by simpa only [Prod.mk.injEq] using boot_size w.params
  obtain ⟨s', r, l1⟩ := Option.map_eq_some_iff.mp (r1 w os)
  have l2 := r2 w os
  have l3 := r3 w os
  rw [r] at l2 l3
  have l2 := Option.some.inj l2
  have l3 := Option.some.inj l3
  unfold ran at r
  have r := goT_of r
  have hB : (boot w os).abs = ⟨boot_heap w.params, #[], boot_drawn, boot_toks, os⟩ := by
    unfold boot SharedT.abs
    rw [boot_tree]
  rw [hB] at r
  have t : topFrom treeTable p w N ⟨boot_heap w.params, #[], boot_drawn, boot_toks, os⟩ = some s'.abs := by
    unfold topFrom
    dsimp only
    rw [z1, z2, z3, r]
    show (match staticsOk (importedModules p.main.body) (boot_heap w.params) s'.abs.heap && namesBound p s'.abs.heap && gensDone s'.abs && laidKept (boot_heap w.params) s'.abs.heap with | true => _ | false => _) = _
    rw [l1]
  unfold openEnds
  rw [e]
  show (topFrom treeTable p w N _).map _ = _
  rw [t]
  exact congrArg some (Prod.ext l2 l3)
/-- the same run by the library's quick twins -/
theorem ran_eq : @ran = fun p N w os => goT (PySem.W.Fast.tw10156331382660048174 (denote PySem.W.Fast.tw14364793385576792824) p w) (PySem.W.Fast.tw6613529449190102663 11 (some (.ref 6))) N (boot w os) (topStub p) := by
  unfold ran
  rw [PySem.W.Fast.te10156331382660048174, PySem.W.Fast.te6613529449190102663, PySem.W.Fast.te14364793385576792824]
end Hd

section
open PySem PySem.W PyProof.Rows
set_option maxHeartbeats 0
noncomputable def Hk.top : Hd.TopS PySem.Challenge.rw_cablehouse_k37_numbers_kept.Holds := by
  apply Hd.TopS.mk
  case go =>
    intro x1 x2 x3 x4 x5 x6 x7 x8 y z
    w_on; o_law
    apply Hd.keep3
    case main => k_head
    case hl => exact Hd.left (by kernel_rfl) (by decide) (fun _ => by kernel_rfl) x1 (Hd.six x2 x4 x5 x6 x7 x8) x3
    case hw => exact y
    case hc => exact z
theorem Hk.top_1 : Hk.top.l1 := by
  delta Hk.top
  dsimp only
  intro w os
  rw [Hd.ran_eq]
  kernel_rfl
theorem Hk.top_2 : Hk.top.l2 := by
  delta Hk.top
  dsimp only
  intro w os
  rw [Hd.ran_eq]
  kernel_rfl
theorem Hk.top_3 : Hk.top.l3 := by
  delta Hk.top
  dsimp only
  intro w os
  rw [Hd.ran_eq]
  kernel_rfl
theorem Hk.top_4 : Hk.top.l4 := by
  delta Hk.top
  dsimp only
  intro w os
  rw [Hd.ran_eq]
  kernel_rfl
theorem Hk.top_5 : Hk.top.l5 := by
  delta Hk.top
  dsimp only
  intro w os
  rw [Hd.ran_eq]
  kernel_rfl
theorem Hk.top_6 : Hk.top.l6 := by
  delta Hk.top
  dsimp only
  intro w os
  rw [Hd.ran_eq]
  kernel_rfl
theorem Hk.top_7 : Hk.top.l7 := by
  delta Hk.top
  dsimp only
  intro w os
  rw [Hd.ran_eq]
  kernel_rfl
theorem Hk.top_8 : Hk.top.l8 := by
  delta Hk.top
  dsimp only
  intro w os
  rw [Hd.ran_eq]
  kernel_rfl
theorem Hk.top_h : Hk.top.h := by
  delta Hk.top
  dsimp only
  w_witness2
end
-- CHANGE: your row's module here, as the last of these rows
set_option Elab.async false
set_option linter.all false
set_option maxRecDepth 100000
namespace L2
open PySem PySem.Spec PyProof.Rows

abbrev Key := Sum Int Str
def keyIs : Key → Value → Bool
  | .inl k, v => Value.isInt k v
  | .inr x, v => Value.isStrOf x v
def keyH (w : World) : Key → Int
  | .inl k => hashInt k
  | .inr x => hashStr w x
theorem keyIs_shape : ∀ {k : Key} {v : Value}, keyIs k v = true → (∃ i t, k = Sum.inl i ∧ v = Value.int i t) ∨ (∃ x t, k = Sum.inr x ∧ v = Value.str x t)
  | .inl i, v, h => by
    obtain ⟨t, e⟩ := Value.isInt_shape (k := i) (v := v) h
    exact .inl ⟨i, t, rfl, e⟩
  | .inr x, v, h => by
    obtain ⟨t, e⟩ := Value.isStrOf_shape (x := x) (v := v) h
    exact .inr ⟨x, t, rfl, e⟩
theorem keyIs_int (i : Int) (t : Tok) : keyIs (.inl i) (.int i t) = true := by simp [keyIs, Value.isInt]
theorem keyIs_str (x : Str) (t : Tok) : keyIs (.inr x) (.str x t) = true := by simp [keyIs, Value.isStrOf]
theorem key_ll (a b : Int) : decide ((Sum.inl a : Key) = Sum.inl b) = (a == b) := by
  by_cases e : a = b
  · subst e; simp
  · have h : ¬ (Sum.inl a : Key) = Sum.inl b := fun q => e (Sum.inl.inj q)
    rw [decide_eq_false h]
    exact (beq_eq_false_iff_ne.mpr e).symm
theorem key_rr (a b : Str) : decide ((Sum.inr a : Key) = Sum.inr b) = decide (a = b) := by
  by_cases e : a = b
  · subst e; simp
  · have h : ¬ (Sum.inr a : Key) = Sum.inr b := fun q => e (Sum.inr.inj q)
    rw [decide_eq_false h, decide_eq_false e]
theorem key_lr (a : Int) (b : Str) : decide ((Sum.inl a : Key) = Sum.inr b) = false := decide_eq_false (fun q => nomatch q)
theorem key_rl (a : Str) (b : Int) : decide ((Sum.inr a : Key) = Sum.inl b) = false := decide_eq_false (fun q => nomatch q)

def mixKind (prog : Program) (w : World) : PySem.KeyKind prog w Key where
  is := keyIs
  hash := keyH w
  inj := fun v a b ha hb => by
    rcases keyIs_shape ha with ⟨i, t, rfl, rfl⟩ | ⟨x, t, rfl, rfl⟩
    · rcases keyIs_shape hb with ⟨j, u, rfl, e⟩ | ⟨y, u, rfl, e⟩
      · injection e with e1 _; rw [e1]
      · exact nomatch e
    · rcases keyIs_shape hb with ⟨j, u, rfl, e⟩ | ⟨y, u, rfl, e⟩
      · exact nomatch e
      · injection e with e1 _; rw [e1]
  byValue := fun k v h => by
    rcases keyIs_shape h with ⟨i, t, rfl, rfl⟩ | ⟨x, t, rfl, rfl⟩ <;> rfl
  pyHash := fun hv h => by
    rcases keyIs_shape hv with ⟨i, t, rfl, rfl⟩ | ⟨x, t, rfl, rfl⟩
    · exact wpAny_pyHash_int h
    · exact wpAny_pyHash_str h
  eqBool := fun hu hv h => by
    rcases keyIs_shape hu with ⟨i, t, rfl, rfl⟩ | ⟨x, t, rfl, rfl⟩
    · rcases keyIs_shape hv with ⟨j, u, rfl, rfl⟩ | ⟨y, u, rfl, rfl⟩
      · rw [key_ll] at h; exact wpAny_eqBool_int h
      · rw [key_lr] at h; exact SeqAt.EqAt.int_str i t y u _ _ _ _ h
    · rcases keyIs_shape hv with ⟨j, u, rfl, rfl⟩ | ⟨y, u, rfl, rfl⟩
      · rw [key_rl] at h; exact SeqAt.EqAt.str_int x t j u _ _ _ _ h
      · rw [key_rr] at h; exact wpAny_eqBool_str h
  «strs» := fun k x t v h => by
    rcases keyIs_shape h with ⟨i, u, rfl, e⟩ | ⟨y, u, rfl, e⟩
    · exact nomatch e
    · injection e with e1 _
      subst e1
      cases v <;> rfl

theorem mixKind_int (prog : Program) (w : World) (i : Int) (t : Tok) : (mixKind prog w).is (.inl i) (.int i t) = true := keyIs_int i t
theorem mixKind_str (prog : Program) (w : World) (x : Str) (t : Tok) : (mixKind prog w).is (.inr x) (.str x t) = true := keyIs_str x t
end L2

namespace L2
open PySem PySem.Spec PyProof.Rows

inductive V where
  | non | bl (b : Bool) | int (i : Int) | str (x : Str) | byt (b : Array UInt8) | flt (b : UInt64) | ref (a : Addr) | ty (n : String)
  deriving DecidableEq

def RelV : V → Value → Prop
  | .non, u => u = Value.none
  | .bl b, u => u = Value.bool b
  | .int i, u => ∃ t, u = Value.int i t
  | .str x, u => ∃ t, u = Value.str x t
  | .byt b, u => ∃ t, u = Value.bytes b t
  | .flt b, u => ∃ t, u = Value.float b t
  | .ref a, u => u = Value.ref a
  | .ty n, u => u = Value.type n

abbrev Vals : List V → List Value → Prop := Paired RelV
theorem Vals.length {xs : List V} {us : List Value} (r : Vals xs us) : xs.length = us.length := Paired.length r
theorem Vals.get : ∀ {xs : List V} {us : List Value} {i : Nat} {x : V}, Vals xs us → xs[i]? = some x → ∃ u, us[i]? = some u ∧ RelV x u
  | _, _, _, _, .nil, e => by simp at e
  | _, _, 0, _, .cons r _, e => by simp at e; subst e; exact ⟨_, rfl, r⟩
  | _, _, i + 1, x, .cons _ t, e => by
    obtain ⟨u, h1, h2⟩ := Vals.get (i := i) (x := x) t (by simpa using e)
    exact ⟨u, by simpa using h1, h2⟩
theorem Vals.set {x : V} {u : Value} (r : RelV x u) : ∀ {xs : List V} {us : List Value} (i : Nat), Vals xs us → Vals (xs.set i x) (us.set i u)
  | _, _, _, .nil => .nil
  | _, _, 0, .cons _ t => .cons r t
  | _, _, i + 1, .cons q t => .cons q (Vals.set r i t)
theorem Vals.append : ∀ {xs ys : List V} {us ws : List Value}, Vals xs us → Vals ys ws → Vals (xs ++ ys) (us ++ ws)
  | _, _, _, _, .nil, s => s
  | _, _, _, _, .cons r t, s => .cons r (Vals.append t s)
theorem Vals.take : ∀ {xs : List V} {us : List Value} (n : Nat), Vals xs us → Vals (xs.take n) (us.take n)
  | _, _, 0, _ => .nil
  | _, _, _ + 1, .nil => .nil
  | _, _, n + 1, .cons r t => .cons r (Vals.take n t)
theorem Vals.drop : ∀ {xs : List V} {us : List Value} (n : Nat), Vals xs us → Vals (xs.drop n) (us.drop n)
  | _, _, 0, r => r
  | _, _, _ + 1, .nil => .nil
  | _, _, n + 1, .cons _ t => Vals.drop n t
theorem Vals.none_of : ∀ {xs : List V} {us : List Value} {i : Nat}, Vals xs us → xs[i]? = none → us[i]? = none := fun {xs us i} r e => by
  have h1 := r.length
  have h2 : xs.length ≤ i := List.getElem?_eq_none_iff.mp e
  exact List.getElem?_eq_none_iff.mpr (by omega)

def RelO : Option V → Option Value → Prop
  | some v, some u => RelV v u
  | none, none => True
  | _, _ => False
def KV {κ : Type} : List (κ × V) → List (κ × Value) → Prop := Paired fun (p : κ × V) (q : κ × Value) => p.1 = q.1 ∧ RelV p.2 q.2

def kV : Key → V
  | .inl i => .int i
  | .inr x => .str x

inductive HO where
  /-- a list -/
  | lst (xs : List V)
  /-- a tuple (never changes) -/
  | tup (xs : List V)
  /-- a dict whose keys are ints and texts; one whose keys are tuples of ints and texts (the empty one is both) -/
  | dK (kvs : List (Key × V)) | dT (kvs : List (List Key × V))
  /-- a set of ints: its members, its size -/
  | set (S : Int → Bool) (n : Nat)
  /-- an instance of the class at C, its dict at dx, its attributes -/
  | ins (C dx : Addr) (fs : List (Str × V))
  /-- the dict of the instance at x -/
  | own (x : Addr)
  /-- the dict of an exception -/
  | xd (fs : List (Str × V))
  /-- a bound method, f of x -/
  | met (f x : Addr)
  /-- a range object lo, lo + 1, .. below hi -/
  | rng (lo hi : Int)
  /-- a thing that is known to the object (the script; a dict while a loop walks it): read, never written while it is so -/
  | frz (o : Obj) (u : HO)
  /-- a code object's table -/
  | tbl (ps : Array Value)
  /-- any other thing, by what is true of its one object (a def of one's own: SetO a S n := HO.ext fun h => ..) -/
  | ext (φ : Heap → Prop)

abbrev Hp := Addr → Option HO
def upd (H : Hp) (a : Addr) (o : HO) : Hp := fun b => if b = a then some o else H b
theorem upd_same {H : Hp} {a : Addr} {o : HO} : upd H a o a = some o := by unfold upd; rw [if_pos rfl]
theorem upd_ne {H : Hp} {a b : Addr} {o : HO} (h : b ≠ a) : upd H a o b = H b := by unfold upd; rw [if_neg h]
theorem ne_of {H : Hp} {a b : Addr} {o u : HO} (h : H a = some o) (h' : H b = some u) (d : o ≠ u) : a ≠ b := by
  intro e; subst e; rw [h] at h'; exact d (Option.some.inj h')
theorem ne_of_none {H : Hp} {a b : Addr} {o : HO} (h : H a = some o) (h' : H b = none) : a ≠ b := by
  intro e; subst e; rw [h] at h'; cases h'

section
variable (P : Program) (w : World)
def ObjOk (H : Hp) (h : Heap) (a : Addr) : HO → Prop
  | .lst xs => xs.length ≤ sizeLine ∧ ∃ (its : List Value) (n : Nat), Vals xs its ∧ h.get? a = some { cls := .type "list", data := .seq its.toArray n }
  | .tup xs => xs.length ≤ sizeLine ∧ ∃ its : List Value, Vals xs its ∧ IsTup h a its.toArray
  | .dK kvs => kvs.length ≤ sizeLine ∧ (a == sysModules) = false ∧ ∃ vs, KV kvs vs ∧ h.DictOf (mixKind P w) a vs
  | .dT kvs => kvs.length ≤ sizeLine ∧ (a == sysModules) = false ∧ ∃ xs : List (List Key × Addr × Value),
      Paired (fun (p : List Key × V) (q : List Key × Addr × Value) => p.1 = q.1 ∧ H q.2.1 = some (.tup (p.1.map kV)) ∧ RelV p.2 q.2.2) kvs xs ∧
      ∃ o es ep, h.get? a = some o ∧ o.ExactDict ∧ o.data = .dict es ep ∧ es.toList = xs.map (entryOfKey (tupleKind (mixKind P w))) ∧ (xs.map (·.1)).Nodup
  | .set S n => h.SetOf (intKind P w) a S n
  | .ins C dx fs => H dx = some (.own a) ∧ fs.length ≤ 1000 ∧ dx ≠ a ∧ h.get? a = some (PySem.W.instObj C dx) ∧
      ∃ mA, h.Ns1 dx mA ∧ (∀ f, RelO (fs.lookup f) (mA f)) ∧ PySem.Within mA (fs.map (·.1))
  | .own _ => ∃ o, h.get? a = some o
  | .xd fs => ∃ mA, h.Ns1 a mA ∧ ∀ f, RelO (fs.lookup f) (mA f)
  | .rng lo hi => ∃ t u v, h.get? a = some { cls := .type "range", data := .fields #[.int lo t, .int hi u, .int 1 v] }
  | .frz o u => h.get? a = some o ∧ ObjOk H h a u
  | .tbl ps => ∃ qs : Array Value, h.get? a = some { cls := .none, data := .fields qs } ∧ TriplesOk qs.toList ∧ ∀ pos c, codeAmong pos qs.toList = some c → ∃ c' oc vs t q, c = .ref c' ∧ H c' = some (.frz oc (.own a)) ∧ oc.data = .fields vs ∧ vs[1]? = some (.str q t) ∧ ps = #[.str q 0]
  | .met f x => h.get? a = some (PySem.W.methodObj (.ref f) (.ref x))
  | .ext φ => φ h ∧ (∃ o, h.get? a = some o) ∧ ∀ h1 h2 : Heap, φ h1 → (∀ o, h1.get? a = some o → h2.get? a = some o) → φ h2
def HOk (H : Hp) (h : Heap) : Prop := ∀ a o, H a = some o → ObjOk P w H h a o
end

section
variable {P : Program} {w : World} {H H' : Hp} {h h' : Heap} {a : Addr} {o : HO}
theorem ObjOk.lt (x : ObjOk P w H h a o) : a < h.objs.size := by
  cases o with
  | lst xs => obtain ⟨_, _, _, _, e⟩ := x; exact Heap.lt_size e
  | tup xs => obtain ⟨_, _, _, p⟩ := x; exact p.lt
  | dK kvs => obtain ⟨_, _, _, _, o, _, _, e, _⟩ := x; exact Heap.lt_size e
  | dT kvs => obtain ⟨_, _, _, _, o, _, _, e, _⟩ := x; exact Heap.lt_size e
  | set S n => obtain ⟨o, _, _, _, e, _⟩ := x; exact Heap.lt_size e
  | ins C dx fs => obtain ⟨_, _, _, e, _⟩ := x; exact Heap.lt_size e
  | own y => obtain ⟨_, e⟩ := x; exact Heap.lt_size e
  | xd fs => obtain ⟨_, ⟨_, _, _, e, _⟩, _⟩ := x; exact Heap.lt_size e
  | rng lo hi => obtain ⟨_, _, _, e⟩ := x; exact Heap.lt_size e
  | frz ob u => obtain ⟨e, _⟩ := x; exact Heap.lt_size e
  | tbl ps => obtain ⟨_, e, _⟩ := x; exact Heap.lt_size e
  | met f y => exact Heap.lt_size (show h.get? a = some _ from x)
  | ext φ => obtain ⟨_, ⟨_, e⟩, _⟩ := x; exact Heap.lt_size e
theorem Paired.mapP {α β : Type} {F G : α → β → Prop} : ∀ {l₁ : List α} {l₂ : List β}, Paired F l₁ l₂ → (∀ a b, F a b → G a b) → Paired G l₁ l₂
  | _, _, .nil, _ => .nil
  | _, _, .cons r t, f => .cons (f _ _ r) (Paired.mapP t f)
theorem ObjOk.stay (x : ObjOk P w H h a o) (k : ∀ b u, (b = a ∨ H b = some (.own a)) → h.get? b = some u → h'.get? b = some u)
    (ho : ∀ b, H b = some (.own a) → H' b = some (.own a)) (ht : ∀ b xs, H b = some (.tup xs) → H' b = some (.tup xs))
    (hf : ∀ b ob u, H b = some (.frz ob u) → H' b = some (.frz ob u) := by first | exact fun _ _ _ q => q | exact fun c ob u q => (upd_ne (ne_of_none q (by assumption))).trans q) : ObjOk P w H' h' a o := by
  induction o with
  | lst xs => obtain ⟨z, its, n, r, e⟩ := x; exact ⟨z, its, n, r, k _ _ (.inl rfl) e⟩
  | tup xs => obtain ⟨z, its, r, ob, e, c⟩ := x; exact ⟨z, its, r, ob, k _ _ (.inl rfl) e, c⟩
  | dK kvs => obtain ⟨z, y, vs, r, ob, es, ep, e, c⟩ := x; exact ⟨z, y, vs, r, ob, es, ep, k _ _ (.inl rfl) e, c⟩
  | dT kvs =>
    obtain ⟨z, y, xs, r, ob, es, ep, e, c⟩ := x
    exact ⟨z, y, xs, Paired.mapP r fun p q z => ⟨z.1, ht _ _ z.2.1, z.2.2⟩, ob, es, ep, k _ _ (.inl rfl) e, c⟩
  | set S n => obtain ⟨ob, es, ep, t, e, c⟩ := x; exact ⟨ob, es, ep, t, k _ _ (.inl rfl) e, c⟩
  | ins C dx fs =>
    obtain ⟨d, z, ne, e, mA, ⟨od, es, ep, e2, c⟩, r⟩ := x
    exact ⟨ho _ d, z, ne, k _ _ (.inl rfl) e, mA, ⟨od, es, ep, k _ _ (.inr d) e2, c⟩, r⟩
  | own y => obtain ⟨ob, e⟩ := x; exact ⟨ob, k _ _ (.inl rfl) e⟩
  | xd fs => obtain ⟨mA, ⟨od, es, ep, e, c⟩, r⟩ := x; exact ⟨mA, ⟨od, es, ep, k _ _ (.inl rfl) e, c⟩, r⟩
  | rng lo hi => obtain ⟨t, u, v, e⟩ := x; exact ⟨t, u, v, k _ _ (.inl rfl) e⟩
  | frz ob u ih => obtain ⟨e, q⟩ := x; exact ⟨k _ _ (.inl rfl) e, ih q⟩
  | tbl ps =>
    obtain ⟨qs, e, t, z⟩ := x
    refine ⟨qs, k a _ (.inl rfl) e, t, fun pos c q => ?_⟩
    obtain ⟨c', oc, vs, tk, qq, h1, h2, h3⟩ := z pos c q
    exact ⟨c', oc, vs, tk, qq, h1, hf _ _ _ h2, h3⟩
  | met f y =>
    have e : h.get? a = some (PySem.W.methodObj (.ref f) (.ref y)) := x
    show h'.get? a = some (PySem.W.methodObj (.ref f) (.ref y))
    exact k a _ (.inl rfl) e
  | ext φ => obtain ⟨p, ⟨o, e⟩, st⟩ := x; exact ⟨st _ _ p fun o q => k _ _ (.inl rfl) q, ⟨o, k _ _ (.inl rfl) e⟩, st⟩
theorem HOk.lt (x : HOk P w H h) (e : H a = some o) : a < h.objs.size := (x a o e).lt
theorem HOk.fresh (x : HOk P w H h) (e : h.objs.size ≤ a) : H a = none := by
  cases q : H a with
  | none => rfl
  | some u => exact absurd (Nat.lt_of_lt_of_le (x.lt q) e) (Nat.lt_irrefl _)
theorem HOk.kept (x : HOk P w H h) (k : ∀ b u, h.get? b = some u → h'.get? b = some u) : HOk P w H h' := fun a o e =>
  (x a o e).stay (fun b u _ q => k b u q) (fun _ q => q) fun _ _ q => q
theorem HOk.laid (x : HOk P w H h) (k : ∀ b u, h.get? b = some u → h'.get? b = some u) (hp : h.objs.size ≤ a) (new : ObjOk P w (upd H a o) h' a o) : HOk P w (upd H a o) h' := fun b u e => by
  have hn := x.fresh hp
  by_cases hb : b = a
  · subst hb; rw [upd_same] at e; cases e; exact new
  · rw [upd_ne hb] at e
    exact (x b u e).stay (fun c v _ q => k c v q) (fun c q => by rw [upd_ne (ne_of_none q hn)]; exact q) fun c xs q => by rw [upd_ne (ne_of_none q hn)]; exact q
end

def Rd (H : Hp) (a : Addr) (u : HO) : Prop := H a = some u ∨ ∃ o, H a = some (.frz o u)
theorem Rd.of {H : Hp} {a : Addr} {u : HO} (h : H a = some u) : Rd H a u := .inl h
theorem Rd.ok {P : Program} {w : World} {H : Hp} {h : Heap} {a : Addr} {u : HO} (r : Rd H a u) (x : HOk P w H h) : ObjOk P w H h a u := by
  rcases r with r | ⟨o, r⟩
  · exact x a u r
  · obtain ⟨_, q⟩ := x a _ r
    exact q
def Mut : Option HO → Prop
  | some (.lst _) => True
  | some (.dK _) => True
  | some (.dT _) => True
  | some (.set _ _) => True
  | some (.ins _ _ _) => True
  | some (.ext _) => True
  | _ => False
section
variable {P : Program} {w : World} {H : Hp} {h h' : Heap} {x e : Addr} {o' : HO}
theorem HOk.write (ok : HOk P w H h) (mu : Mut (H x)) (he : e = x ∨ H e = some (.own x)) (k : ∀ b u, b ≠ e → h.get? b = some u → h'.get? b = some u) (heo : ∃ u, h'.get? e = some u)
    (new : ObjOk P w (upd H x o') h' x o') : HOk P w (upd H x o') h' := fun b u q => by
  have nown : ∀ c y, H c = some (.own y) → c ≠ x := fun c y r z => by subst z; rw [r] at mu; exact mu
  have ntup : ∀ c xs, H c = some (.tup xs) → c ≠ x := fun c xs r z => by subst z; rw [r] at mu; exact mu
  by_cases hb : b = x
  · subst hb; rw [upd_same] at q; cases q; exact new
  · rw [upd_ne hb] at q
    by_cases hbe : b = e
    · have q' : H b = some (.own x) := by
        rcases he with z | z
        · exact absurd (hbe.trans z) hb
        · rw [hbe]; exact z
      rw [q] at q'; cases q'
      obtain ⟨v, hv⟩ := heo
      exact ⟨v, by rw [hbe]; exact hv⟩
    · refine (ok b u q).stay (fun c v hc r => k c v ?_ r) (fun c r => by rw [upd_ne (nown c b r)]; exact r) (fun c xs r => by rw [upd_ne (ntup c xs r)]; exact r) fun c ob u r => (upd_ne (fun z => by subst z; rw [r] at mu; exact mu)).trans r
      rcases hc with rfl | hc
      · exact hbe
      · rintro rfl
        rcases he with z | z
        · exact nown c b hc z
        · rw [hc] at z; cases z; exact hb rfl
end

structure Un (fs ex : List Addr) (H H' : Hp) (h h' : Heap) : Prop where
  keep : ∀ b o, h.get? b = some o → H b = none → b ∉ fs → b ∉ ex → h'.get? b = some o
  slot : ∀ b o, h.get? b = some o → H b = none → b ∈ fs → b ∉ ex → ∃ sl, h'.get? b = some { o with slots := sl }
  free : ∀ b o, h.get? b = some o → H b = none → b ∉ ex → H' b = none
  there : ∀ b o, h.get? b = some o → b ∉ ex → ∃ o', h'.get? b = some o'
  tups : ∀ b xs, H b = some (.tup xs) → H' b = some (.tup xs)
  frzs : ∀ b o u, H b = some (.frz o u) → H' b = some (.frz o u)
  tbls : ∀ b ps, H b = some (.tbl ps) → ∃ more, H' b = some (.tbl (ps ++ more))
section
variable {fs fs' ex ex' : List Addr} {H H1 H2 : Hp} {h h1 h2 h' : Heap} {a x e : Addr} {o : HO}
theorem Un.any (u : Un fs ex H H1 h h1) {b : Addr} {ob : Obj} (q : h.get? b = some ob) (n : H b = none) (hx : b ∉ ex) : ∃ sl, h1.get? b = some { ob with slots := sl } := by
  by_cases hb : b ∈ fs
  · exact u.slot b ob q n hb hx
  · exact ⟨ob.slots, u.keep b ob q n hb hx⟩
theorem Un.trans (a : Un fs ex H H1 h h1) (b : Un fs ex H1 H2 h1 h2) : Un fs ex H H2 h h2 where
  keep := fun c ob q n hc hx => b.keep c ob (a.keep c ob q n hc hx) (a.free c ob q n hx) hc hx
  slot := fun c ob q n hc hx => by
    obtain ⟨sl, e1⟩ := a.slot c ob q n hc hx
    obtain ⟨sl', e2⟩ := b.slot c _ e1 (a.free c ob q n hx) hc hx
    exact ⟨sl', e2⟩
  free := fun c ob q n hx => by
    obtain ⟨o', e1⟩ := a.there c ob q hx
    exact b.free c o' e1 (a.free c ob q n hx) hx
  there := fun c ob q hx => by
    obtain ⟨o', e1⟩ := a.there c ob q hx
    exact b.there c o' e1 hx
  tups := fun c xs q => b.tups c xs (a.tups c xs q)
  frzs := fun c ob xs q => b.frzs c ob xs (a.frzs c ob xs q)
  tbls := fun c ps q => by
    obtain ⟨m1, e1⟩ := a.tbls c ps q
    obtain ⟨m2, e2⟩ := b.tbls c _ e1
    exact ⟨m1 ++ m2, by rw [e2, Array.append_assoc]⟩
theorem Un.kept (k : ∀ b u, h.get? b = some u → h'.get? b = some u) : Un fs ex H H h h' :=
  ⟨fun b ob q _ _ _ => k b ob q, fun b ob q _ _ _ => ⟨ob.slots, k b ob q⟩, fun _ _ _ n _ => n, fun b ob q _ => ⟨ob, k b ob q⟩, fun _ _ q => q, fun _ _ _ q => q, fun _ ps q => ⟨#[], by rw [q]; simp⟩⟩
theorem Un.refl : Un fs ex H H h h := Un.kept fun _ _ q => q
theorem Un.laid (k : ∀ b u, h.get? b = some u → h'.get? b = some u) (hp : h.objs.size ≤ a) (hn : H a = none) : Un fs ex H (upd H a o) h h' where
  keep := fun b u q _ _ _ => k b u q
  slot := fun b u q _ _ _ => ⟨u.slots, k b u q⟩
  free := fun b u q n _ => by rw [upd_ne (Nat.ne_of_lt (Nat.lt_of_lt_of_le (Heap.lt_size q) hp))]; exact n
  there := fun b u q _ => ⟨u, k b u q⟩
  tups := fun b xs q => by rw [upd_ne (ne_of_none q hn)]; exact q
  frzs := fun b u xs q => by rw [upd_ne (ne_of_none q hn)]; exact q
  tbls := fun b ps q => ⟨#[], by rw [upd_ne (ne_of_none q hn), q]; simp⟩
theorem Un.write (mu : Mut (H x)) (he : e = x ∨ H e = some (.own x)) (k : ∀ b u, b ≠ e → h.get? b = some u → h'.get? b = some u) (heo : ∃ u, h'.get? e = some u) : Un fs ex H (upd H x o) h h' := by
  have hx : ∀ b, H b = none → b ≠ x := fun b n z => by subst z; rw [n] at mu; exact mu
  have hb : ∀ b, H b = none → b ≠ e := fun b n z => by
    subst z
    rcases he with r | r
    · exact hx b n r
    · rw [n] at r; cases r
  have hm : ∀ b u, H b = some u → ¬ Mut (some u) → b ≠ x := fun b u q nm z => by subst z; rw [q] at mu; exact nm mu
  refine ⟨fun b u q n _ _ => k b u (hb b n) q, fun b u q n _ _ => ⟨u.slots, k b u (hb b n) q⟩, fun b u q n _ => by rw [upd_ne (hx b n)]; exact n, fun b u q _ => ?_,
    fun b xs q => by rw [upd_ne (hm b _ q fun z => z)]; exact q, fun b u xs q => by rw [upd_ne (hm b _ q fun z => z)]; exact q, fun b ps q => ⟨#[], by rw [upd_ne (hm b _ q fun z => z), q]; simp⟩⟩
  by_cases hbe : b = e
  · subst hbe; exact heo
  · exact ⟨u, k b u hbe q⟩
theorem Un.mono (u : Un fs ex H H1 h h1) (hs : ∀ b ∈ fs, b ∈ fs') (hx : ∀ b ∈ ex, b ∈ ex') : Un fs' ex' H H1 h h1 :=
  ⟨fun b ob q n hb he => u.keep b ob q n (fun z => hb (hs b z)) fun z => he (hx b z), fun _ _ q n _ he => u.any q n fun z => he (hx _ z), fun b ob q n he => u.free b ob q n fun z => he (hx b z), fun b ob q he => u.there b ob q fun z => he (hx b z), u.tups, u.frzs, u.tbls⟩
end

def trk (h : Heap) (H : Hp) : List Addr := (List.range h.objs.size).filter fun a => (H a).isSome
def hidT (h : Heap) (H : Hp) : Heap := PySem.W.hideAll h (trk h H)
theorem hidT_size (h : Heap) (H : Hp) : (hidT h H).objs.size = h.objs.size := PySem.W.hideAll_size _ _
theorem hidT_get {h : Heap} {H : Hp} {b : Addr} {o : Obj} (e : h.get? b = some o) (n : H b = none) : (hidT h H).get? b = some o :=
  PySem.W.hideAll_get _ e fun hm => by
    have q : (H b).isSome = true := (List.mem_filter.mp hm).2
    rw [n] at q; simp at q
theorem of_hidT {h : Heap} {H : Hp} {b : Addr} {o : Obj} (e : (hidT h H).get? b = some o) : h.get? b = some o ∧ H b = none := by
  have e' : h.get? b = some o := PySem.W.of_hideAll (trk h H) e
  refine ⟨e', ?_⟩
  cases q : H b with
  | none => rfl
  | some x =>
    have hm : b ∈ trk h H := List.mem_filter.mpr ⟨List.mem_range.mpr (Heap.lt_size e'), by simp [q]⟩
    have z : (hidT h H).get? b = none := PySem.W.hideAll_none (trk h H) hm
    rw [z] at e; cases e

def allNews (g h : Heap) (L : Addr) : List (Addr × Obj) := (List.range h.objs.size).filterMap fun a => if a = L ∨ (g.get? a).isSome = true then none else (h.get? a).map fun o => (a, o)
def rest (g h : Heap) (L d : Addr) : List (Addr × Obj) := (allNews g h L).filter fun p => decide (p.1 ≠ d)
end L2

namespace L2
open PySem PySem.Spec PyProof.Rows

structure Mod (K : PySem.W.Frag) (mg : Str → Option Value) (base : Heap) : Prop where
  kin : K.In base
  glob : base.Ns mainGlobals mg
  blt : ∃ mb, base.Ns builtinsNs mb ∧ ∀ x : Str, x ≠ "__name__" → mb x = bootBuiltins x
  nolimit : base.NoLimit
  bmn : ∃ bm ob, mg "__builtins__" = some (.ref bm) ∧ bm ≠ builtinsNs ∧ base.get? bm = some ob ∧ ob.cls = .type "module" ∧ ob.dict = some builtinsNs ∧ ob.data = .plain

/-- the context: a def's body (or a comprehension's block) running. base: fixed through the whole law; s₀, H₀: the entry; outer: the frames whose slots others may change (a def's callers); stack: all frames that run;
   ex: iterators that were made ahead of the entry and are walked here (a comprehension's); fn: the names whose cells were made at the entry (a def: all; a comprehension's block: its own); calm: not within an except suite; pn: pins that every state bears; xe: what is wanted of an exception that leaves the code -/
structure Cx where
  prog : Program
  w : World
  K : PySem.W.Frag
  mg : Str → Option Value
  base : Heap
  A : Around
  N : List Str
  s₀ : Shared
  H₀ : Hp
  env : Env
  outer : List Env
  stack : List Env
  ex : List Addr
  fn : Str → Bool
  calm : Bool
  pn : List (Addr × Obj)
  xe : Value → Shared → Prop
def frs (l : List Env) : List Addr := l.filterMap (·.frame)
abbrev Cx.fs (X : Cx) : List Addr := frs X.outer

def Vis (sc : Scope) (x : Str) : Prop := sc.names.lookup x = some .local ∨ sc.names.lookup x = some .cell ∨ sc.names.lookup x = some .free
def Loc (sc : Scope) (x : Str) : Prop := sc.names.lookup x = some .local ∨ sc.names.lookup x = some .cell
def Look (env : Env) (h : Heap) (m : Str → Option Value) (x : Str) (u : Value) : Prop :=
  (env.kindOf x = some .local ∧ m x = some u) ∨ ((env.kindOf x = some .cell ∨ env.kindOf x = some .free) ∧ ∃ c, env.cells.lookup x = some c ∧ h.IsCell c (some u))

structure Cx.Ok (X : Cx) : Prop where
  mod : Mod X.K X.mg X.base
  kind : X.env.scope.kind = .function
  glob : X.env.globals = mainGlobals
  blt : X.env.builtins = builtinsNs
  above : X.s₀.heap.objs.size ≤ X.env.locals
  inj : ∀ x y c, X.env.cells.lookup x = some c → X.env.cells.lookup y = some c → x = y
  has : ∀ x, (X.env.kindOf x = some .cell ∨ X.env.kindOf x = some .free) → ∃ c, X.env.cells.lookup x = some c
  cab : ∀ x c, X.fn x = true → X.env.cells.lookup x = some c → X.s₀.heap.objs.size ≤ c
  hd : X.calm = true → X.A.handled = none
  frames : X.A.frames = some X.stack
  stk : X.stack = X.outer ∨ (X.stack = X.env :: X.outer ∧ X.env.frame = some X.env.locals)
  exf : ∀ b ∈ X.ex, b ≠ X.env.locals ∧ ∀ x c, X.env.cells.lookup x = some c → c ≠ b
  bs : ∀ b o, X.base.get? b = some o → X.s₀.heap.get? b = some o ∧ X.H₀ b = none
  bsz : X.base.objs.size ≤ X.s₀.heap.objs.size
  noex : ∀ b o, X.base.get? b = some o → b ∉ X.ex
  exfs : ∀ b ∈ X.ex, b ∉ X.fs
  funs : X.s₀.heap.FunFrames X.base X.outer
  frf : ∀ b ∈ X.fs, X.H₀ b = none

structure Inv (X : Cx) (pins : List (Addr × Obj)) (σ : List (Option V)) (H : Hp) (s : Shared) : Prop where
  ok : X.Ok
  os : s.os = X.s₀.os
  bare : AllBare s.gens
  base : Un X.fs X.ex X.H₀ H X.s₀.heap s.heap
  loc : ∃ m, s.heap.Ns X.env.locals m ∧ ∀ (i : Nat) (x : Str) (v : V), X.N[i]? = some x → σ[i]? = some (some v) → Vis X.env.scope x → ∃ u, RelV v u ∧ Look X.env s.heap m x u
  cell : ∀ x c, X.env.cells.lookup x = some c → ∃ v, s.heap.IsCell c v
  free : H X.env.locals = none
  freeC : ∀ x c, X.env.cells.lookup x = some c → H c = none
  pin : ∀ p ∈ X.pn ++ pins, s.heap.get? p.1 = some p.2 ∧ H p.1 = none ∧ p.1 ≠ X.env.locals ∧ p.1 ∉ X.fs ∧ ∀ v, p.2.data ≠ .cell v
  hok : HOk X.prog X.w H s.heap
  len : σ.length = X.N.length

section
variable {X : Cx} {pins : List (Addr × Obj)} {σ : List (Option V)} {H H' : Hp} {s : Shared} {h' : Heap}

theorem Cx.Ok.nofr (ok : X.Ok) {b : Addr} {o : Obj} (e : X.base.get? b = some o) : b ∉ X.fs := fun hb => by
  have := (ok.funs.mem hb).1
  rw [e] at this; cases this
theorem Inv.bs (I : Inv X pins σ H s) : ∀ b o, X.base.get? b = some o → s.heap.get? b = some o ∧ H b = none := fun b o e =>
  ⟨I.base.keep b o (I.ok.bs b o e).1 (I.ok.bs b o e).2 (I.ok.nofr e) (I.ok.noex b o e), I.base.free b o (I.ok.bs b o e).1 (I.ok.bs b o e).2 (I.ok.noex b o e)⟩
theorem Inv.bk (I : Inv X pins σ H s) : ∀ b o, X.base.get? b = some o → s.heap.get? b = some o := fun b o e => (I.bs b o e).1
theorem Inv.mod (I : Inv X pins σ H s) : Mod X.K X.mg X.base := I.ok.mod
theorem Inv.kIn (I : Inv X pins σ H s) : X.K.In s.heap := I.ok.mod.kin.keeps I.bk
theorem Inv.nolimit (I : Inv X pins σ H s) : s.heap.NoLimit := I.ok.mod.nolimit.keeps I.bk
theorem Inv.fr (I : Inv X pins σ H s) : ∃ m, Fr X.base X.env.locals s.heap m :=
  let ⟨m, hn, _⟩ := I.loc
  ⟨m, hn, I.bk, Nat.le_trans I.ok.bsz I.ok.above⟩
theorem Inv.lt (I : Inv X pins σ H s) : X.env.locals < s.heap.objs.size := let ⟨_, hn, _⟩ := I.loc; hn.lt
theorem Inv.sz (I : Inv X pins σ H s) : X.s₀.heap.objs.size ≤ s.heap.objs.size := Nat.le_trans I.ok.above (Nat.le_of_lt I.lt)
theorem Inv.nofs (I : Inv X pins σ H s) {a : Addr} (h : s.heap.objs.size ≤ a) : a ∉ X.fs := fun hb => by
  obtain ⟨_, o, ho, _⟩ := I.ok.funs.mem hb
  exact absurd (Nat.lt_of_lt_of_le (Heap.lt_size ho) (Nat.le_trans I.sz h)) (Nat.lt_irrefl _)
theorem Inv.cne (I : Inv X pins σ H s) : ∀ x c, X.env.cells.lookup x = some c → c ≠ X.env.locals := fun x c e z => by
  obtain ⟨v, o, ho, hd⟩ := I.cell x c e
  obtain ⟨m, ⟨o', es, ep, ho', hd', _⟩, _⟩ := I.loc
  rw [z, ho'] at ho; cases ho; rw [hd'] at hd; cases hd
theorem Inv.funs (I : Inv X pins σ H s) : s.heap.FunFrames X.base X.outer := by
  have all : ∀ (l : List Env), (∀ b ∈ frs l, b ∈ X.fs) → X.s₀.heap.FunFrames X.base l → s.heap.FunFrames X.base l := by
    intro l
    induction l with
    | nil => intro _ _; trivial
    | cons env r ih =>
      intro hs hl
      obtain ⟨hk, ⟨L, o, hf, hn, ho, hd⟩, hr⟩ := hl
      have hL : L ∈ X.fs := hs L (by unfold frs; rw [List.filterMap_cons, hf]; exact List.mem_cons_self)
      obtain ⟨sl, e⟩ := I.base.slot L o ho (I.ok.frf L hL) hL fun z => I.ok.exfs L z hL
      exact ⟨hk, ⟨L, _, hf, hn, e, hd⟩, ih (fun b hb => hs b (by unfold frs; rw [List.filterMap_cons, hf]; exact List.mem_cons_of_mem _ hb)) hr⟩
  exact all X.outer (fun _ hb => hb) I.ok.funs

theorem Inv.stack (I : Inv X pins σ H s) : s.heap.FunFrames X.base X.stack := by
  rcases I.ok.stk with e | ⟨e, hf⟩
  · rw [e]; exact I.funs
  · rw [e]
    obtain ⟨m, hn, _⟩ := I.loc
    refine .cons (by rw [I.ok.kind]; decide) hf hn ?_ I.funs
    exact Heap.get?_none_of_le (Nat.le_trans I.ok.bsz I.ok.above)
theorem Inv.stkSub (I : Inv X pins σ H s) : ∀ b ∈ frs X.stack, b ∈ X.env.locals :: X.fs := fun b hb => by
  rcases I.ok.stk with e | ⟨e, hf⟩
  · rw [e] at hb; exact List.mem_cons_of_mem _ hb
  · rw [e] at hb
    unfold frs at hb
    rw [List.filterMap_cons, hf] at hb
    exact hb
theorem Inv.stkFree (I : Inv X pins σ H s) : ∀ b ∈ frs X.stack, H b = none := fun b hb => by
  rcases List.mem_cons.mp (I.stkSub b hb) with e | hb
  · rw [e]; exact I.free
  · obtain ⟨_, o, ho, _⟩ := I.ok.funs.mem hb
    exact I.base.free b o ho (I.ok.frf b hb) fun z => I.ok.exfs b z hb

theorem Inv.step {g' : Array GenState} {t' : Nat} {d' : Drawn} {ch : List Addr} (I : Inv X pins σ H s)
    (hch : ∀ b ∈ ch, (b ∈ X.ex ∨ X.s₀.heap.objs.size ≤ b) ∧ b ≠ X.env.locals ∧ (∀ x c, X.env.cells.lookup x = some c → c ≠ b) ∧ ∀ p ∈ X.pn ++ pins, p.1 ≠ b)
    (keep : ∀ b o, b ≠ X.env.locals → b ∉ X.fs → b ∉ ch → s.heap.get? b = some o → H b = none → h'.get? b = some o)
    (slot : ∀ b o, b ≠ X.env.locals → b ∈ X.fs → b ∉ ch → s.heap.get? b = some o → H b = none → ∃ sl, h'.get? b = some { o with slots := sl }) (free : ∀ b o, b ∉ ch → s.heap.get? b = some o → H b = none → H' b = none)
    (there : ∀ b o, b ∉ ch → s.heap.get? b = some o → ∃ o', h'.get? b = some o')
    (tups : ∀ b xs, H b = some (.tup xs) → H' b = some (.tup xs)) (frzs : ∀ b o u, H b = some (.frz o u) → H' b = some (.frz o u)) (tbls : ∀ b ps, H b = some (.tbl ps) → ∃ more, H' b = some (.tbl (ps ++ more)))
    (ns : ∀ m, s.heap.Ns X.env.locals m → h'.Ns X.env.locals m) (hok : HOk X.prog X.w H' h') (hg : AllBare g') :
    Inv X pins σ H' { s with heap := h', gens := g', drawn := d', toks := t' } := by
  have neL : ∀ b o, X.s₀.heap.get? b = some o → b ≠ X.env.locals := fun b o e => Nat.ne_of_lt (Nat.lt_of_lt_of_le (Heap.lt_size e) I.ok.above)
  have neC : ∀ b o, X.s₀.heap.get? b = some o → b ∉ X.ex → b ∉ ch := fun b o e hx hb => by
    rcases (hch b hb).1 with z | z
    · exact hx z
    · exact absurd (Nat.lt_of_lt_of_le (Heap.lt_size e) z) (Nat.lt_irrefl _)
  have cellK : ∀ x c, X.env.cells.lookup x = some c → ∀ v, s.heap.IsCell c v → h'.IsCell c v := fun x c e v ⟨o, ho, hd⟩ => by
    have nch : c ∉ ch := fun z => (hch c z).2.2.1 x c e rfl
    by_cases hc : c ∈ X.fs
    · obtain ⟨sl, q⟩ := slot c o (I.cne x c e) hc nch ho (I.freeC x c e)
      exact ⟨_, q, hd⟩
    · exact ⟨o, keep c o (I.cne x c e) hc nch ho (I.freeC x c e), hd⟩
  refine ⟨I.ok, I.os, hg, ⟨fun b o e n hb hx => ?_, fun b o e n hb hx => ?_, fun b o e n hx => ?_, fun b o e hx => ?_, fun b xs e => tups b xs (I.base.tups b xs e), fun b o xs e => frzs b o xs (I.base.frzs b o xs e), fun b ps e => ?_⟩, ?_, fun x c e => ?_, ?_, fun x c e => ?_, fun p hp => ?_, hok, I.len⟩
  · exact keep b o (neL b o e) hb (neC b o e hx) (I.base.keep b o e n hb hx) (I.base.free b o e n hx)
  · obtain ⟨sl, e1⟩ := I.base.slot b o e n hb hx
    obtain ⟨sl', e2⟩ := slot b _ (neL b o e) hb (neC b o e hx) e1 (I.base.free b o e n hx)
    exact ⟨sl', e2⟩
  · obtain ⟨o', e1⟩ := I.base.there b o e hx
    exact free b o' (neC b o e hx) e1 (I.base.free b o e n hx)
  · obtain ⟨o', e1⟩ := I.base.there b o e hx
    exact there b o' (neC b o e hx) e1
  · obtain ⟨m1, e1⟩ := I.base.tbls b ps e
    obtain ⟨m2, e2⟩ := tbls b _ e1
    exact ⟨m1 ++ m2, by rw [e2, Array.append_assoc]⟩
  · obtain ⟨m, hn, hl⟩ := I.loc
    refine ⟨m, ns m hn, fun i x v e1 e2 e3 => ?_⟩
    obtain ⟨u, r, l⟩ := hl i x v e1 e2 e3
    refine ⟨u, r, ?_⟩
    rcases l with l | ⟨k, c, e, z⟩
    · exact .inl l
    · exact .inr ⟨k, c, e, cellK x c e _ z⟩
  · obtain ⟨v, z⟩ := I.cell x c e
    exact ⟨v, cellK x c e v z⟩
  · obtain ⟨m, ⟨o, _, _, ho, _⟩, _⟩ := I.loc
    exact free _ o (fun z => (hch _ z).2.1 rfl) ho I.free
  · obtain ⟨v, o, ho, hd⟩ := I.cell x c e
    exact free c o (fun z => (hch c z).2.2.1 x c e rfl) ho (I.freeC x c e)
  · obtain ⟨e, n, ne, nf, d⟩ := I.pin p hp
    have nch : p.1 ∉ ch := fun z => (hch p.1 z).2.2.2 p hp rfl
    exact ⟨keep p.1 p.2 ne nf nch e n, free p.1 p.2 nch e n, ne, nf, d⟩
theorem Inv.un {t' : Nat} (I : Inv X pins σ H s) (u : Un X.fs [] H H' s.heap h') (hok : HOk X.prog X.w H' h') : Inv X pins σ H' { s with heap := h', toks := t' } := by
  obtain ⟨m, ⟨o, es, ep, ho, r⟩, _⟩ := id I.loc
  obtain ⟨sl, hL⟩ := u.any ho I.free (by simp)
  exact I.step (g' := s.gens) (d' := s.drawn) (ch := []) (fun _ z => nomatch z) (fun b o _ hb _ e n => u.keep b o e n hb (by simp)) (fun b o _ hb _ e n => u.slot b o e n hb (by simp)) (fun b o _ e n => u.free b o e n (by simp)) (fun b o _ e => u.there b o e (by simp)) u.tups u.frzs u.tbls (fun m' hm => by
    obtain ⟨o', es', ep', ho', r'⟩ := hm
    rw [ho] at ho'; cases ho'
    exact ⟨_, es', ep', hL, r'⟩) hok I.bare
theorem Inv.call {g' : Array GenState} {t' : Nat} {d' : Drawn} {ch : List Addr} (I : Inv X pins σ H s) (u : Un (frs X.stack) ch H H' s.heap h') (hok : HOk X.prog X.w H' h') (hg : AllBare g')
    (hch : ∀ b ∈ ch, (b ∈ X.ex ∨ X.s₀.heap.objs.size ≤ b) ∧ b ≠ X.env.locals ∧ (∀ x c, X.env.cells.lookup x = some c → c ≠ b) ∧ ∀ p ∈ X.pn ++ pins, p.1 ≠ b) :
    Inv X pins σ H' { s with heap := h', gens := g', drawn := d', toks := t' } := by
  obtain ⟨m, ⟨o, es, ep, ho, r⟩, _⟩ := id I.loc
  obtain ⟨sl, hL⟩ := u.any ho I.free fun z => (hch _ z).2.1 rfl
  exact I.step (ch := ch) hch (fun b o hL hb hc e n => u.keep b o e n (fun z => (List.mem_cons.mp (I.stkSub b z)).elim hL hb) hc) (fun b o _ _ hc e n => u.any e n hc) (fun b o hc e n => u.free b o e n hc) (fun b o hc e => u.there b o e hc) u.tups u.frzs u.tbls (fun m' hm => by
    obtain ⟨o', es', ep', ho', r'⟩ := hm
    rw [ho] at ho'; cases ho'
    exact ⟨_, es', ep', hL, r'⟩) hok hg
theorem Inv.turned {t' : Nat} {it : Addr} (I : Inv X pins σ H s) (k : ∀ b o, b ≠ it → s.heap.get? b = some o → h'.get? b = some o) (hn : H it = none) (hL : it ≠ X.env.locals)
    (h1 : it ∈ X.ex ∨ X.s₀.heap.objs.size ≤ it) (h2 : ∀ x c, X.env.cells.lookup x = some c → c ≠ it) (h3 : ∀ p ∈ X.pn ++ pins, p.1 ≠ it) : Inv X pins σ H { s with heap := h', toks := t' } := by
  have nit : ∀ b u, H b = some u → b ≠ it := fun b u e z => by rw [z, hn] at e; cases e
  refine I.step (g' := s.gens) (d' := s.drawn) (ch := [it]) (fun b hb => ?_) (fun b o _ _ hc e _ => k b o (fun z => hc (by simp [z])) e) (fun b o _ _ hc e _ => ⟨o.slots, k b o (fun z => hc (by simp [z])) e⟩) (fun _ _ _ _ n => n)
    (fun b o hc e => ⟨o, k b o (fun z => hc (by simp [z])) e⟩) (fun _ _ e => e) (fun _ _ _ e => e) (fun b ps e => ⟨#[], by rw [e]; simp⟩) (fun m hm => ?_) (fun b u e => ?_) I.bare
  · have e : b = it := by simpa using hb
    subst e
    exact ⟨h1, hL, h2, h3⟩
  · obtain ⟨o, es, ep, ho, r⟩ := hm
    exact ⟨o, es, ep, k _ o (Ne.symm hL) ho, r⟩
  · refine (I.hok b u e).stay (fun c v hc q => k c v ?_ q) (fun _ q => q) fun _ _ q => q
    rcases hc with z | z
    · rw [z]; exact nit b u e
    · exact nit c _ z
theorem Inv.tok (I : Inv X pins σ H s) (t : Nat) : Inv X pins σ H { s with toks := t } := I.un (h' := s.heap) (t' := t) Un.refl I.hok
theorem Inv.kept {t' : Nat} (I : Inv X pins σ H s) (k : ∀ b u, s.heap.get? b = some u → h'.get? b = some u) : Inv X pins σ H { s with heap := h', toks := t' } := I.un (Un.kept k) (I.hok.kept k)
theorem Inv.laid {a : Addr} {o : HO} {t' : Nat} (I : Inv X pins σ H s) (k : ∀ b u, s.heap.get? b = some u → h'.get? b = some u) (hp : s.heap.objs.size ≤ a) (new : ObjOk X.prog X.w (upd H a o) h' a o) :
    Inv X pins σ (upd H a o) { s with heap := h', toks := t' } := I.un (Un.laid k hp (I.hok.fresh hp)) (I.hok.laid k hp new)
theorem Inv.write {x e : Addr} {o : HO} {t' : Nat} (I : Inv X pins σ H s) (mu : Mut (H x)) (he : e = x ∨ H e = some (.own x)) (k : ∀ b u, b ≠ e → s.heap.get? b = some u → h'.get? b = some u) (heo : ∃ u, h'.get? e = some u)
    (new : ObjOk X.prog X.w (upd H x o) h' x o) : Inv X pins σ (upd H x o) { s with heap := h', toks := t' } := I.un (Un.write mu he k heo) (I.hok.write mu he k heo new)
theorem Inv.pins_of {pins' : List (Addr × Obj)} (I : Inv X pins σ H s) (h : ∀ p ∈ pins', s.heap.get? p.1 = some p.2 ∧ H p.1 = none ∧ p.1 ≠ X.env.locals ∧ p.1 ∉ X.fs ∧ ∀ v, p.2.data ≠ .cell v) : Inv X pins' σ H s :=
  ⟨I.ok, I.os, I.bare, I.base, I.loc, I.cell, I.free, I.freeC, fun p hp => (List.mem_append.mp hp).elim (fun z => I.pin p (List.mem_append_left _ z)) (h p), I.hok, I.len⟩

theorem nodup_ix {N : List Str} (hN : N.Nodup) {i j : Nat} {x : Str} (a : N[i]? = some x) (b : N[j]? = some x) : i = j := by
  obtain ⟨h1, e1⟩ := List.getElem?_eq_some_iff.mp a
  obtain ⟨h2, e2⟩ := List.getElem?_eq_some_iff.mp b
  exact (List.getElem_inj hN).mp (e1.trans e2.symm)

theorem store_ok2 {M : Model} {A : Around} {E : Value → Shared → Prop} {i : Nat} {x : Str} {v : V} {u : Value} {Q : Unit → Shared → Prop} (I : Inv X pins σ H s) (hN : X.N.Nodup) (hi : X.N[i]? = some x) (hx : Loc X.env.scope x) (r : RelV v u)
    (h : ∀ s', Inv X pins (σ.set i (some v)) H s' → (∃ a, Heap.SameBut a s.heap s'.heap ∧ (a = X.env.locals ∨ X.env.cells.lookup x = some a)) → Q () s') (hf : X.fn x = true ∨ X.env.scope.names.lookup x = some .local := by first | exact .inl rfl | exact .inr rfl | assumption) : wpAny M A (storeName X.env x u) Q E s := by
  obtain ⟨m, hn, hl⟩ := id I.loc
  have hcls : (X.env.scope.kind == .class || (X.env.scope.kind == .module && X.env.locals != X.env.globals)) = false := by rw [I.ok.kind]; rfl
  have hiσ : i < σ.length := by rw [I.len]; exact (List.getElem?_eq_some_iff.mp hi).1
  have cne := I.cne
  have tracked : ∀ {a : Addr} {h' : Heap}, (∃ o, s.heap.get? a = some o ∧ H a = none) → Heap.SameBut a s.heap h' → HOk X.prog X.w H h' := fun {a h'} ha hs b ob e => by
    obtain ⟨_, _, hfree⟩ := ha
    refine (I.hok b ob e).stay (fun c w' hc q => (hs.2 c ?_).trans q) (fun _ q => q) fun _ _ q => q
    rintro rfl
    rcases hc with rfl | hc
    · rw [hfree] at e; cases e
    · rw [hfree] at hc; cases hc
  rcases hx with hk | hk
  · refine wpAny_storeName_local hk hn (fun h' hn' hs => ?_) hcls
    obtain ⟨oL, _, _, hoL, _⟩ := id hn
    refine h _ ⟨I.ok, I.os, I.bare, ⟨fun b o e n hb hx => ?_, fun b o e n hb hx => ?_, I.base.free, fun b o e hx => ?_, I.base.tups, I.base.frzs, I.base.tbls⟩, ⟨_, hn', fun j y v' e1 e2 e3 => ?_⟩, fun y c e => ?_, I.free, I.freeC, fun p hp => ?_, tracked ⟨oL, hoL, I.free⟩ hs, by simpa using I.len⟩ ⟨_, hs, .inl rfl⟩
    · exact (hs.2 b (Nat.ne_of_lt (Nat.lt_of_lt_of_le (Heap.lt_size e) I.ok.above))).trans (I.base.keep b o e n hb hx)
    · obtain ⟨sl, e1⟩ := I.base.slot b o e n hb hx
      exact ⟨sl, (hs.2 b (Nat.ne_of_lt (Nat.lt_of_lt_of_le (Heap.lt_size e) I.ok.above))).trans e1⟩
    · obtain ⟨o', e1⟩ := I.base.there b o e hx
      exact ⟨o', (hs.2 b (Nat.ne_of_lt (Nat.lt_of_lt_of_le (Heap.lt_size e) I.ok.above))).trans e1⟩
    · by_cases hj : j = i
      · subst hj
        rw [hi] at e1; cases e1
        rw [List.getElem?_set_self hiσ] at e2
        cases e2
        exact ⟨u, r, .inl ⟨hk, by simp⟩⟩
      · rw [List.getElem?_set_ne (Ne.symm hj)] at e2
        obtain ⟨u', r', q⟩ := hl j y v' e1 e2 e3
        refine ⟨u', r', ?_⟩
        rcases q with ⟨k, e⟩ | ⟨k, c, e, z⟩
        · refine .inl ⟨k, ?_⟩
          have : y ≠ x := fun e => hj (nodup_ix hN e1 (e ▸ hi))
          simp [this, e]
        · exact .inr ⟨k, c, e, z.sameBut hs (cne y c e)⟩
    · obtain ⟨w', z⟩ := I.cell y c e
      exact ⟨w', z.sameBut hs (cne y c e)⟩
    · obtain ⟨e, n, ne, nf, d⟩ := I.pin p hp
      exact ⟨(hs.2 p.1 ne).trans e, n, ne, nf, d⟩
  · have hfn : X.fn x = true := by
      rcases hf with z | z
      · exact z
      · rw [z] at hk; cases hk
    obtain ⟨c, hc⟩ := I.ok.has x (.inl hk)
    obtain ⟨w', z⟩ := I.cell x c hc
    refine wpAny_storeName_cell I.ok.kind hk hc z (fun h' hc' hs => ?_)
    obtain ⟨oc, hoc, hocd⟩ := id z
    refine h { s with heap := h' } ⟨I.ok, I.os, I.bare, ⟨fun b o e n hb hx => ?_, fun b o e n hb hx => ?_, I.base.free, fun b o e hx => ?_, I.base.tups, I.base.frzs, I.base.tbls⟩, ⟨m, hn.sameBut hs (Ne.symm (cne x c hc)), fun j y v' e1 e2 e3 => ?_⟩, fun y c' e => ?_, I.free, I.freeC, fun p hp => ?_, tracked ⟨oc, hoc, I.freeC x c hc⟩ hs, by simpa using I.len⟩ ⟨c, hs, .inr hc⟩
    · exact (hs.2 b (Nat.ne_of_lt (Nat.lt_of_lt_of_le (Heap.lt_size e) (I.ok.cab x c hfn hc)))).trans (I.base.keep b o e n hb hx)
    · obtain ⟨sl, e1⟩ := I.base.slot b o e n hb hx
      exact ⟨sl, (hs.2 b (Nat.ne_of_lt (Nat.lt_of_lt_of_le (Heap.lt_size e) (I.ok.cab x c hfn hc)))).trans e1⟩
    · obtain ⟨o', e1⟩ := I.base.there b o e hx
      exact ⟨o', (hs.2 b (Nat.ne_of_lt (Nat.lt_of_lt_of_le (Heap.lt_size e) (I.ok.cab x c hfn hc)))).trans e1⟩
    · by_cases hj : j = i
      · subst hj
        rw [hi] at e1; cases e1
        rw [List.getElem?_set_self hiσ] at e2
        cases e2
        exact ⟨u, r, .inr ⟨.inl hk, c, hc, hc'⟩⟩
      · rw [List.getElem?_set_ne (Ne.symm hj)] at e2
        obtain ⟨u', r', q⟩ := hl j y v' e1 e2 e3
        refine ⟨u', r', ?_⟩
        rcases q with q | ⟨k, c', e, z'⟩
        · exact .inl q
        · refine .inr ⟨k, c', e, z'.sameBut hs ?_⟩
          rintro rfl
          exact hj (nodup_ix hN e1 (I.ok.inj _ _ _ e hc ▸ hi))
    · by_cases hcc : c' = c
      · subst hcc; exact ⟨_, hc'⟩
      · obtain ⟨w2, z2⟩ := I.cell y c' e
        exact ⟨w2, z2.sameBut hs hcc⟩
    · obtain ⟨e, n, ne, nf, d⟩ := I.pin p hp
      refine ⟨(hs.2 p.1 ?_).trans e, n, ne, nf, d⟩
      intro q
      rw [q, hoc] at e
      have q' : oc = p.2 := Option.some.inj e
      exact d w' (by rw [← q']; exact hocd)
theorem store_ok {M : Model} {A : Around} {E : Value → Shared → Prop} {i : Nat} {x : Str} {v : V} {u : Value} {Q : Unit → Shared → Prop} (I : Inv X pins σ H s) (hN : X.N.Nodup) (hi : X.N[i]? = some x) (hx : Loc X.env.scope x) (r : RelV v u)
    (h : ∀ s', Inv X pins (σ.set i (some v)) H s' → Q () s') (hf : X.fn x = true ∨ X.env.scope.names.lookup x = some .local := by first | exact .inl rfl | exact .inr rfl | assumption) : wpAny M A (storeName X.env x u) Q E s :=
  store_ok2 I hN hi hx r (fun s' I' _ => h s' I') hf
theorem Inv.call' {s' : Shared} {ch : List Addr} (I : Inv X pins σ H s) (ho : s'.os = s.os) (u : Un (frs X.stack) ch H H' s.heap s'.heap) (hok : HOk X.prog X.w H' s'.heap) (hg : AllBare s'.gens)
    (hch : ∀ b ∈ ch, (b ∈ X.ex ∨ X.s₀.heap.objs.size ≤ b) ∧ b ≠ X.env.locals ∧ (∀ x c, X.env.cells.lookup x = some c → c ≠ b) ∧ ∀ p ∈ X.pn ++ pins, p.1 ≠ b) : Inv X pins σ H' s' := by
  obtain ⟨h', g', d', t', o'⟩ := s'
  have e : o' = s.os := ho
  subst e
  exact I.call (g' := g') (t' := t') (d' := d') u hok hg hch
end

abbrev XK := Value → Option Addr → Hp → Prop
abbrev St := List (Option V)
abbrev VK := V → Hp → Prop
abbrev TE := St → Hp → VK → Prop
abbrev TT := St → Hp → (Bool → Hp → Prop) → Prop
abbrev TA := St → Hp → (List V → Hp → Prop) → Prop
structure Ends where
  nx : St → Hp → Prop
  rt : VK
  bk : St → Hp → Prop := fun _ _ => False
  ct : St → Hp → Prop := fun _ _ => False
abbrev TS := Ends → St → Hp → Prop

def EP (X : Cx) (pins : List (Addr × Obj)) (σ : St) (Q : VK) (u : Value) (s' : Shared) : Prop := ∃ v H', Inv X pins σ H' s' ∧ RelV v u ∧ Q v H'
def TP (X : Cx) (pins : List (Addr × Obj)) (σ : St) (Q : Bool → Hp → Prop) (b : Bool) (s' : Shared) : Prop := ∃ H', Inv X pins σ H' s' ∧ Q b H'
def AP (X : Cx) (pins : List (Addr × Obj)) (σ : St) (Q : List V → Hp → Prop) (us : List Value) (s' : Shared) : Prop := ∃ vs H', Inv X pins σ H' s' ∧ Vals vs us ∧ Q vs H'
def SP (X : Cx) (pins : List (Addr × Obj)) (D : Ends) (f : Flow) (s' : Shared) : Prop :=
  match f with
  | .next => ∃ σ' H', Inv X pins σ' H' s' ∧ D.nx σ' H'
  | .brk => ∃ σ' H', Inv X pins σ' H' s' ∧ D.bk σ' H'
  | .cont => ∃ σ' H', Inv X pins σ' H' s' ∧ D.ct σ' H'
  | .ret u => ∃ v σ' H', Inv X pins σ' H' s' ∧ RelV v u ∧ D.rt v H'

def PE (X : Cx) (e : Expr) (t : TE) : Prop :=
  ∀ (pins : List (Addr × Obj)) (s : Shared) (σ : St) (H : Hp) (Q : VK), Inv X pins σ H s → t σ H Q → wpAny (model X.prog X.w) X.A (eval e X.env) (EP X pins σ Q) X.xe s
def PT (X : Cx) (e : Expr) (t : TT) : Prop :=
  ∀ (pins : List (Addr × Obj)) (s : Shared) (σ : St) (H : Hp) (Q : Bool → Hp → Prop), Inv X pins σ H s → t σ H Q → wpAny (model X.prog X.w) X.A (isTrue e X.env (eval e X.env)) (TP X pins σ Q) X.xe s
def PW (X : Cx) (e : Expr) (t : TT) : Prop :=
  ∀ (whole : Sem Value) (pins : List (Addr × Obj)) (s : Shared) (σ : St) (H : Hp) (Q : Bool → Hp → Prop), Inv X pins σ H s → t σ H Q → wpAny (model X.prog X.w) X.A (isTrue e X.env whole) (TP X pins σ Q) X.xe s
theorem PW.pt {X : Cx} {e : Expr} {t : TT} (h : PW X e t) : PT X e t := h _
def PA (X : Cx) (es : List Expr) (t : TA) : Prop :=
  ∀ (pos : Pos) (pins : List (Addr × Obj)) (s : Shared) (σ : St) (H : Hp) (Q : List V → Hp → Prop), Inv X pins σ H s → t σ H Q → wpAny (model X.prog X.w) X.A (spliced (backTo pos (starEach es X.env))) (AP X pins σ Q) X.xe s
def PS (X : Cx) (st : Stmt) (t : TS) : Prop :=
  ∀ (pins : List (Addr × Obj)) (s : Shared) (σ : St) (H : Hp) (D : Ends), Inv X pins σ H s → t D σ H → wpAny (model X.prog X.w) X.A (exec st X.env) (SP X pins D) X.xe s
def PSs (X : Cx) (st : List Stmt) (t : TS) : Prop :=
  ∀ (pins : List (Addr × Obj)) (s : Shared) (σ : St) (H : Hp) (D : Ends), Inv X pins σ H s → t D σ H → wpAny (model X.prog X.w) X.A (execs st X.env) (SP X pins D) X.xe s
theorem thn {α : Type} {t : Sem α} {Q Q' : α → Shared → Prop} {M : Model} {A : Around} {E : Value → Shared → Prop} {s : Shared} (h : wpAny M A t Q E s) (hQ : ∀ a s, Q a s → Q' a s) : wpAny M A t Q' E s := wpAny_mono h hQ fun _ _ x => x
end L2

namespace L2
open PySem PySem.Spec PyProof.Rows
section
variable {X : Cx}

def tVar (i : Nat) : TE := fun σ H Q => ∃ v, σ[i]? = some (some v) ∧ Q v H
def tC (v : V) : TE := fun _ H Q => Q v H
theorem pe_var {i : Nat} {x : Str} {pos : Pos} (hN : X.N[i]? = some x) (hv : Vis X.env.scope x) (hd : (x == ("__debug__" : Str)) = false := by decide) (hcd : (x == ("__classdict__" : Str)) = false := by decide) : PE X (.Name x pos) (tVar i) := by
  intro pins s σ H Q I h
  obtain ⟨v, e, h⟩ := h
  obtain ⟨m, hn, hl⟩ := I.loc
  obtain ⟨u, r, l⟩ := hl i x v hN e hv
  have fin : EP X pins σ Q u s := ⟨v, H, I, r, h⟩
  rcases l with ⟨hk, hm⟩ | ⟨hk, c, hc, hcell⟩
  · exact wpAny_Name (wpAny_loadName_local I.ok.kind hk hn hm fin) hd
  · rcases hk with hk | hk
    · exact wpAny_Name (wpAny_loadName_cell I.ok.kind hk hc hcell fin) hd
    · exact wpAny_Name (wpAny_loadName_free I.ok.kind hk hc hcell fin hcd) hd
theorem pe_int {i j pos} : PE X (.Constant (.int i) j pos) (tC (.int i)) := fun _ _ _ H _ I h => wpAny_Constant_int ⟨.int i, H, I.tok _, ⟨_, rfl⟩, h⟩
theorem pe_bl {b j pos} : PE X (.Constant (.bool b) j pos) (tC (.bl b)) := fun _ _ _ H _ I h => Constant_bool ⟨.bl b, H, I, rfl, h⟩
theorem pe_non {j pos} : PE X (.Constant .none j pos) (tC .non) := fun _ _ _ H _ I h => Constant_none ⟨.non, H, I, rfl, h⟩
theorem pe_str {x j pos} : PE X (.Constant (.str x) j pos) (tC (.str x)) := fun _ _ _ H _ I h => Calls.Constant_str ⟨.str x, H, I.tok _, ⟨_, rfl⟩, h⟩

def Gl (X : Cx) (x : Str) : Prop := X.env.kindOf x = some .globalImplicit
theorem ld_glob {E : Value → Shared → Prop} {pins : List (Addr × Obj)} {s : Shared} {σ : St} {H : Hp} {x : Str} {u : Value} {pos : Pos} {Q : Value → Shared → Prop} (I : Inv X pins σ H s) (hg : Gl X x) (hm : X.mg x = some u) (h : Q u s)
    (hd : (x == ("__debug__" : Str)) = false := by decide) : wpAny (model X.prog X.w) X.A (eval (.Name x pos) X.env) Q E s :=
  Calls.Name_function_global I.ok.kind hg (Calls.loadGlobal_global (by rw [I.ok.glob]; exact I.mod.glob.keeps I.bk) hm h) hd
theorem ld_blt {E : Value → Shared → Prop} {pins : List (Addr × Obj)} {s : Shared} {σ : St} {H : Hp} {x : Str} {u : Value} {pos : Pos} {Q : Value → Shared → Prop} (I : Inv X pins σ H s) (hg : Gl X x) (hm : X.mg x = none) (hv : bootBuiltins x = some u) (h : Q u s)
    (hn : x ≠ "__name__" := by decide) (hd : (x == ("__debug__" : Str)) = false := by decide) : wpAny (model X.prog X.w) X.A (eval (.Name x pos) X.env) Q E s := by
  obtain ⟨mb, h1, h2⟩ := I.mod.blt
  exact Calls.Name_function_global I.ok.kind hg (Calls.loadGlobal_builtin (by rw [I.ok.glob]; exact I.mod.glob.keeps I.bk) hm (by rw [I.ok.blt]; exact h1.keeps I.bk) ((h2 x hn).trans hv) h) hd
theorem pe_glob {x : Str} {v : V} {u : Value} {pos : Pos} (hg : Gl X x) (hm : X.mg x = some u) (r : RelV v u) (hd : (x == ("__debug__" : Str)) = false := by decide) : PE X (.Name x pos) (tC v) :=
  fun _ _ _ H _ I h => ld_glob I hg hm ⟨v, H, I, r, h⟩ hd
theorem pe_bltn {x : Str} {v : V} {u : Value} {pos : Pos} (hg : Gl X x) (hm : X.mg x = none) (hv : bootBuiltins x = some u) (r : RelV v u) (hn : x ≠ "__name__" := by decide) (hd : (x == ("__debug__" : Str)) = false := by decide) : PE X (.Name x pos) (tC v) :=
  fun _ _ _ H _ I h => ld_blt I hg hm hv ⟨v, H, I, r, h⟩ hn hd

variable {a b : Expr} {ta tb : TE} {pos : Pos}
def tB (t : TE) : TT := fun σ H Q => t σ H fun x H1 => ∃ c, x = .bl c ∧ Q c H1
theorem pt_val {e : Expr} {t : TE} (h : PE X e t) (he : ∀ whole, isTrue e X.env whole = (do let v ← whole; standAt e.pos; holding [v] (truthy v)) := by intro _; rfl) : PT X e (tB t) := by
  intro pins s σ H Q I hw
  refine isTrue_plain (thn (h pins s σ H _ I hw) fun v s1 ⟨x, H1, I1, r1, q1⟩ => ?_) (he _)
  obtain ⟨d, rfl, q⟩ := q1
  cases r1
  exact wpAny_truthy_bool ⟨H1, I1, q⟩

variable {tA tB' : TT} {rest : List Expr}
def tAnd (t u : TT) : TT := fun σ H Q => t σ H fun c H1 => if c = true then u σ H1 Q else Q false H1
def tOr (t u : TT) : TT := fun σ H Q => t σ H fun c H1 => if c = true then Q true H1 else u σ H1 Q
def tNot (t : TT) : TT := fun σ H Q => t σ H fun c H1 => Q (!c) H1
theorem pw_and1 (ha : PT X a tA) : PW X (.BoolOp .And [a] pos) tA := by
  intro wh pins s σ H Q I h
  refine isTrue_and (thn (ha pins s σ H Q I h) fun c s1 e => ?_)
  cases c with
  | true => exact isTrue_and_nil e
  | false => exact e
theorem pw_or1 (ha : PT X a tA) : PW X (.BoolOp .Or [a] pos) tA := by
  intro wh pins s σ H Q I h
  refine isTrue_or (thn (ha pins s σ H Q I h) fun c s1 e => ?_)
  cases c with
  | false => exact isTrue_or_nil e
  | true => exact e
theorem pw_and (ha : PT X a tA) (hb : PW X (.BoolOp .And (b :: rest) pos) tB') : PW X (.BoolOp .And (a :: b :: rest) pos) (tAnd tA tB') := by
  intro wh pins s σ H Q I h
  refine isTrue_and (thn (ha pins s σ H _ I h) fun c s1 ⟨H1, I1, q1⟩ => ?_)
  cases c with
  | true => exact hb wh pins s1 σ H1 Q I1 q1
  | false => exact ⟨H1, I1, q1⟩
theorem pw_or (ha : PT X a tA) (hb : PW X (.BoolOp .Or (b :: rest) pos) tB') : PW X (.BoolOp .Or (a :: b :: rest) pos) (tOr tA tB') := by
  intro wh pins s σ H Q I h
  refine isTrue_or (thn (ha pins s σ H _ I h) fun c s1 ⟨H1, I1, q1⟩ => ?_)
  cases c with
  | true => exact ⟨H1, I1, q1⟩
  | false => exact hb wh pins s1 σ H1 Q I1 q1
theorem pt_not (ha : PT X a tA) : PT X (.UnaryOp .Not a pos) (tNot tA) := by
  intro pins s σ H Q I h
  exact isTrue_not (ha pins s σ H (fun c H1 => Q (!c) H1) I h)
def tAndV (ta tb : TE) : TE := fun σ H Q => ta σ H fun x H1 => ∃ c, x = .bl c ∧ if c = true then tb σ H1 Q else Q (.bl false) H1
def tOrV (ta tb : TE) : TE := fun σ H Q => ta σ H fun x H1 => ∃ c, x = .bl c ∧ if c = true then Q (.bl true) H1 else tb σ H1 Q
def tNotV (ta : TE) : TE := fun σ H Q => ta σ H fun x H1 => ∃ c, x = .bl c ∧ Q (.bl (!c)) H1
theorem pe_one {op} {t : TE} (h : PE X a t) : PE X (.BoolOp op [a] pos) t := fun pins s σ H Q I hw => BoolOp_one (h pins s σ H Q I hw)
theorem pe_and (ha : PE X a ta) (hb : PE X (.BoolOp .And (b :: rest) pos) tb) : PE X (.BoolOp .And (a :: b :: rest) pos) (tAndV ta tb) := by
  intro pins s σ H Q I h
  refine BoolOp_and (thn (ha pins s σ H _ I h) fun v s1 ⟨x, H1, I1, r1, q1⟩ => ?_)
  obtain ⟨c, rfl, q1⟩ := q1
  cases r1
  refine wpAny_truthy_bool ?_
  cases c with
  | true => exact hb pins s1 σ H1 Q I1 q1
  | false => exact ⟨.bl false, H1, I1, rfl, q1⟩
theorem pe_or (ha : PE X a ta) (hb : PE X (.BoolOp .Or (b :: rest) pos) tb) : PE X (.BoolOp .Or (a :: b :: rest) pos) (tOrV ta tb) := by
  intro pins s σ H Q I h
  refine BoolOp_or (thn (ha pins s σ H _ I h) fun v s1 ⟨x, H1, I1, r1, q1⟩ => ?_)
  obtain ⟨c, rfl, q1⟩ := q1
  cases r1
  refine wpAny_truthy_bool ?_
  cases c with
  | false => exact hb pins s1 σ H1 Q I1 q1
  | true => exact ⟨.bl true, H1, I1, rfl, q1⟩
theorem pe_not (ha : PE X a ta) : PE X (.UnaryOp .Not a pos) (tNotV ta) := by
  intro pins s σ H Q I h
  refine UnaryOp_ (thn (ha pins s σ H _ I h) fun v s1 ⟨x, H1, I1, r1, q1⟩ => ?_)
  obtain ⟨c, rfl, q1⟩ := q1
  cases r1
  exact not_of (wpAny_truthy_bool ⟨.bl (!c), H1, I1, rfl, q1⟩)
def tIf (t : TT) (ta tb : TE) : TE := fun σ H Q => t σ H fun c H1 => if c = true then ta σ H1 Q else tb σ H1 Q
theorem pe_ifExp {c : Expr} (hc : PT X c tA) (ha : PE X a ta) (hb : PE X b tb) : PE X (.IfExp c a b pos) (tIf tA ta tb) := by
  intro pins s σ H Q I h
  refine wpAny_IfExp (thn (hc pins s σ H _ I h) fun d s1 ⟨H1, I1, q1⟩ => ?_)
  cases d with
  | true => exact ha pins s1 σ H1 Q I1 q1
  | false => exact hb pins s1 σ H1 Q I1 q1
end
end L2

namespace L2
open PySem PySem.Spec PyProof.Rows

def SqL (K : PySem.W.Frag) (H : Hp) (a : Addr) (xs : List V) : Prop :=
  Rd H a (.lst xs) ∨
    ∃ (o : Obj) (its : Array Value) (n : Nat), K.lookup a = some o ∧ o.cls = .type "list" ∧ o.dict = none ∧ o.data = .seq its n ∧ its.size ≤ sizeLine ∧ Vals xs its.toList
def SqT (K : PySem.W.Frag) (H : Hp) (a : Addr) (xs : List V) : Prop :=
  Rd H a (.tup xs) ∨
    ∃ (o : Obj) (its : Array Value) (n : Nat), K.lookup a = some o ∧ o.cls = .type "tuple" ∧ o.data = .seq its n ∧ its.size ≤ sizeLine ∧ Vals xs its.toList
def absV : Value → Option V
  | .none => some .non
  | .bool b => some (.bl b)
  | .int i _ => some (.int i)
  | .str x _ => some (.str x)
  | .bytes b _ => some (.byt b)
  | .float b _ => some (.flt b)
  | .ref a => some (.ref a)
  | .type n => some (.ty n)
  | _ => none
theorem RelV.abs {x : V} {u : Value} (r : RelV x u) : absV u = some x := by
  cases x with
  | non => cases r; rfl
  | bl _ => cases r; rfl
  | int _ => obtain ⟨t, rfl⟩ := r; rfl
  | str _ => obtain ⟨t, rfl⟩ := r; rfl
  | byt _ => obtain ⟨t, rfl⟩ := r; rfl
  | flt _ => obtain ⟨t, rfl⟩ := r; rfl
  | ref _ => cases r; rfl
  | ty _ => cases r; rfl
theorem RelV.inj {x y : V} {u : Value} (r : RelV x u) (q : RelV y u) : x = y := Option.some.inj (r.abs.symm.trans q.abs)
theorem Vals.inj : ∀ {xs ys : List V} {us : List Value}, Vals xs us → Vals ys us → xs = ys
  | _, _, _, .nil, .nil => rfl
  | _, _, _, .cons r t, .cons r' t' => by rw [r.inj r', Vals.inj t t']
section
variable {X : Cx} {pins : List (Addr × Obj)} {σ : St} {H : Hp} {s : Shared} {a : Addr} {xs ys : List V}
theorem SqL.of {K : PySem.W.Frag} (h : H a = some (.lst xs)) : SqL K H a xs := .inl (.inl h)
theorem SqT.of {K : PySem.W.Frag} (h : H a = some (.tup xs)) : SqT K H a xs := .inl (.inl h)
theorem Inv.list (I : Inv X pins σ H s) (h : SqL X.K H a xs) : ∃ its : List Value, Vals xs its ∧ PlainL s.heap a its.toArray ∧ xs.length ≤ sizeLine := by
  rcases h with h | ⟨o, its, n, hk, hc, hd, hs, hz, r⟩
  · obtain ⟨z, its, n, r, e⟩ := h.ok I.hok
    exact ⟨its, r, ⟨_, n, e, rfl, rfl, rfl⟩, z⟩
  · refine ⟨its.toList, r, ⟨o, n, I.kIn a o hk, hc, hd, by simpa using hs⟩, ?_⟩
    have e := r.length
    simp only [Array.length_toList] at e
    omega
theorem Inv.tuple (I : Inv X pins σ H s) (h : SqT X.K H a xs) : ∃ its : List Value, Vals xs its ∧ IsTup s.heap a its.toArray ∧ xs.length ≤ sizeLine := by
  rcases h with h | ⟨o, its, n, hk, hc, hs, hz, r⟩
  · obtain ⟨z, its, r, p⟩ := h.ok I.hok
    exact ⟨its, r, p, z⟩
  · refine ⟨its.toList, r, ⟨o, I.kIn a o hk, hc, n, by simpa using hs⟩, ?_⟩
    have e := r.length
    simp only [Array.length_toList] at e
    omega
theorem Inv.list_inj (I : Inv X pins σ H s) (h : SqL X.K H a xs) (h' : SqL X.K H a ys) : xs = ys := by
  obtain ⟨its, r, ⟨o, n, e, _, _, d⟩, _⟩ := I.list h
  obtain ⟨its', r', ⟨o', n', e', _, _, d'⟩, _⟩ := I.list h'
  rw [e] at e'; cases e'
  rw [d] at d'
  injection d' with d1 _
  have : its = its' := by simpa using congrArg Array.toList d1
  subst this
  exact r.inj r'
theorem Inv.tuple_inj (I : Inv X pins σ H s) (h : SqT X.K H a xs) (h' : SqT X.K H a ys) : xs = ys := by
  obtain ⟨its, r, ⟨o, e, _, n, d⟩, _⟩ := I.tuple h
  obtain ⟨its', r', ⟨o', e', _, n', d'⟩, _⟩ := I.tuple h'
  rw [e] at e'; cases e'
  rw [d] at d'
  injection d' with d1 _
  have : its = its' := by simpa using congrArg Array.toList d1
  subst this
  exact r.inj r'
end

abbrev Cx.wish (X : Cx) (E : Value → Shared → Prop) : Cx := { X with xe := E }
abbrev Cx.nox (X : Cx) : Cx := X.wish fun _ _ => False
theorem Cx.Ok.wish {X : Cx} (ok : X.Ok) (E : Value → Shared → Prop) : (X.wish E).Ok :=
  ⟨ok.mod, ok.kind, ok.glob, ok.blt, ok.above, ok.inj, ok.has, ok.cab, ok.hd, ok.frames, ok.stk, ok.exf, ok.bs, ok.bsz, ok.noex, ok.exfs, ok.funs, ok.frf⟩
theorem Cx.Ok.unwish {X : Cx} {E : Value → Shared → Prop} (ok : (X.wish E).Ok) : X.Ok :=
  ⟨ok.mod, ok.kind, ok.glob, ok.blt, ok.above, ok.inj, ok.has, ok.cab, ok.hd, ok.frames, ok.stk, ok.exf, ok.bs, ok.bsz, ok.noex, ok.exfs, ok.funs, ok.frf⟩
section
variable {X : Cx} {pins : List (Addr × Obj)} {σ : St} {H : Hp} {s : Shared} {E : Value → Shared → Prop}
theorem Inv.wish (I : Inv X pins σ H s) (E : Value → Shared → Prop) : Inv (X.wish E) pins σ H s := ⟨I.ok.wish E, I.os, I.bare, I.base, I.loc, I.cell, I.free, I.freeC, I.pin, I.hok, I.len⟩
theorem Inv.unwish (I : Inv (X.wish E) pins σ H s) : Inv X pins σ H s := ⟨I.ok.unwish, I.os, I.bare, I.base, I.loc, I.cell, I.free, I.freeC, I.pin, I.hok, I.len⟩
theorem SP.unwish {D : Ends} {f : Flow} {s' : Shared} (h : SP (X.wish E) pins D f s') : SP X pins D f s' := by
  cases f with
  | next => obtain ⟨σ', H', I, q⟩ := h; exact ⟨σ', H', I.unwish, q⟩
  | brk => obtain ⟨σ', H', I, q⟩ := h; exact ⟨σ', H', I.unwish, q⟩
  | cont => obtain ⟨σ', H', I, q⟩ := h; exact ⟨σ', H', I.unwish, q⟩
  | ret u => obtain ⟨v, σ', H', I, r, q⟩ := h; exact ⟨v, σ', H', I.unwish, r, q⟩
theorem PE.nox {e : Expr} {t : TE} (h : PE X.nox e t) : PE X e t := fun pins s σ H Q I hw =>
  wpAny_mono (h pins s σ H Q (I.wish _) hw) (fun _ _ ⟨v, H', I', r, q⟩ => ⟨v, H', I'.unwish, r, q⟩) fun _ _ z => False.elim z
theorem PT.nox {e : Expr} {t : TT} (h : PT X.nox e t) : PT X e t := fun pins s σ H Q I hw =>
  wpAny_mono (h pins s σ H Q (I.wish _) hw) (fun _ _ ⟨H', I', q⟩ => ⟨H', I'.unwish, q⟩) fun _ _ z => False.elim z
theorem PSs.nox {st : List Stmt} {t : TS} (h : PSs X.nox st t) : PSs X st t := fun pins s σ H D I hw =>
  wpAny_mono (h pins s σ H D (I.wish _) hw) (fun _ _ q => q.unwish) fun _ _ z => False.elim z
end

section
variable {X : Cx} {st : Stmt} {rest : List Stmt} {t u : TS} {e : Expr} {te : TE} {pos : Pos}
def tNext : TS := fun D σ H => D.nx σ H
def tSeq (t u : TS) : TS := fun D σ H => t { D with nx := u D } σ H
theorem pss_nil : PSs X [] tNext := fun _ _ σ H _ I h => wpAny_execs_nil ⟨σ, H, I, h⟩
theorem pss_cons (h1 : PS X st t) (h2 : PSs X rest u) : PSs X (st :: rest) (tSeq t u) := by
  intro pins s σ H D I h
  refine wpAny_execs_cons (thn (h1 pins s σ H { D with nx := u D } I h) fun f s1 q => ?_)
  cases f with
  | next =>
    obtain ⟨σ', H', I', q⟩ := q
    exact h2 pins s1 σ' H' D I' q
  | ret v => exact q
  | brk => exact q
  | cont => exact q
theorem pss_one (h1 : PS X st t) : PSs X [st] t := by
  intro pins s σ H D I h
  refine wpAny_execs_cons (thn (h1 pins s σ H D I h) fun f s1 q => ?_)
  cases f with
  | next => exact wpAny_execs_nil q
  | ret v => exact q
  | brk => exact q
  | cont => exact q
theorem Inv.quiet {pins : List (Addr × Obj)} {σ : St} {H : Hp} {s : Shared} (I : Inv X pins σ H s) : interactive X.env = false := by simp [interactive, I.ok.kind]
def tDrop (te : TE) : TS := fun D σ H => te σ H fun _ H1 => D.nx σ H1
theorem ps_expr (he : PE X e te) (hs : swapsWith e none pos.line X.env = pure false := by rfl) : PS X (.Expr e pos) (tDrop te) := by
  intro pins s σ H D I h
  exact wpAny_Expr_any (thn (he pins s σ H _ I h) fun v s1 ⟨x, H1, I1, r1, q1⟩ => ⟨σ, H1, I1, q1⟩) I.quiet hs
def tRet (te : TE) : TS := fun D σ H => te σ H D.rt
theorem ps_ret (he : PE X e te) : PS X (.Return (some e) pos) (tRet te) := by
  intro pins s σ H D I h
  exact wpAny_Return_some (thn (he pins s σ H _ I h) fun v s1 ⟨x, H1, I1, r1, q1⟩ => ⟨x, σ, H1, I1, r1, q1⟩)
def tIfS (c : TT) (t u : TS) : TS := fun D σ H => c σ H fun b H1 => if b = true then t D σ H1 else u D σ H1
theorem ps_if {c : Expr} {a b : List Stmt} {tc : TT} (hc : PT X c tc) (ha : PSs X a t) (hb : PSs X b u) : PS X (.If c a b pos) (tIfS tc t u) := by
  intro pins s σ H D I h
  refine wpAny_If (thn (hc pins s σ H _ I h) fun d s1 ⟨H1, I1, q1⟩ => ?_)
  cases d with
  | true => exact ha pins s1 σ H1 D I1 q1
  | false => exact hb pins s1 σ H1 D I1 q1
end

abbrev TG := V → St → Hp → (St → Hp → Prop) → Prop
abbrev TGs := List V → St → Hp → (St → Hp → Prop) → Prop
def PG (X : Cx) (target : Expr) (t : TG) : Prop :=
  ∀ (pins : List (Addr × Obj)) (s : Shared) (σ : St) (H : Hp) (v : V) (u : Value) (Q : St → Hp → Prop), Inv X pins σ H s → RelV v u → t v σ H Q →
    wpAny (model X.prog X.w) X.A (assign target X.env u) (fun _ s' => ∃ σ' H', Inv X pins σ' H' s' ∧ Q σ' H') X.xe s
def PGs (X : Cx) (ts : List Expr) (t : TGs) : Prop :=
  ∀ (pins : List (Addr × Obj)) (s : Shared) (σ : St) (H : Hp) (vs : List V) (us : List Value) (Q : St → Hp → Prop), Inv X pins σ H s → Vals vs us → t vs σ H Q →
    wpAny (model X.prog X.w) X.A (assignInOrder ((assignEach ts X.env).map (·.2)) us) (fun _ s' => ∃ σ' H', Inv X pins σ' H' s' ∧ Q σ' H') X.xe s
abbrev TSet := V → V → V → Hp → (Hp → Prop) → Prop
def PSet (X : Cx) (t : TSet) : Prop :=
  ∀ (pins : List (Addr × Obj)) (s : Shared) (σ : St) (H : Hp) (o i v : V) (ov iv u : Value) (Q : Hp → Prop), Inv X pins σ H s → RelV o ov → RelV i iv → RelV v u → t o i v H Q →
    wpAny (model X.prog X.w) X.A (setItem ov iv u) (fun _ s' => ∃ H', Inv X pins σ H' s' ∧ Q H') X.xe s
section
variable {X : Cx} {pos : Pos}
def gName (i : Nat) : TG := fun v σ H Q => Q (σ.set i (some v)) H
theorem pg_name {i : Nat} {x : Str} (hN : X.N.Nodup) (hi : X.N[i]? = some x) (hx : Loc X.env.scope x) (hf : X.fn x = true ∨ X.env.scope.names.lookup x = some .local := by first | exact .inl rfl | exact .inr rfl | assumption) : PG X (.Name x pos) (gName i) := by
  intro pins s σ H v u Q I r h
  exact wpAny_assign_Name (store_ok I hN hi hx r (fun s' I' => ⟨_, H, I', h⟩) hf)
def gNil : TGs := fun vs σ H Q => vs = [] ∧ Q σ H
def gCons (t : TG) (u : TGs) : TGs := fun vs σ H Q => ∃ v r, vs = v :: r ∧ t v σ H fun σ' H' => u r σ' H' Q
theorem pgs_nil : PGs X [] gNil := by
  intro pins s σ H vs us Q I r h
  obtain ⟨e, h⟩ := h
  subst e
  cases r
  exact assignInOrder_nil ⟨σ, H, I, h⟩
theorem pgs_cons {e : Expr} {es : List Expr} {t : TG} {u : TGs} (h1 : PG X e t) (h2 : PGs X es u)
    (hs : (assignEach (e :: es) X.env).map (·.2) = assign e X.env :: (assignEach es X.env).map (·.2) := by rfl) : PGs X (e :: es) (gCons t u) := by
  intro pins s σ H vs us Q I r h
  obtain ⟨v, vr, e1, h⟩ := h
  subst e1
  cases r with
  | cons r rr =>
    rw [hs]
    refine assignInOrder_cons (thn (h1 pins s σ H _ _ _ I r h) fun _ s1 ⟨σ1, H1, I1, q1⟩ => ?_)
    exact h2 pins s1 σ1 H1 _ _ Q I1 rr q1
def gTup (K : PySem.W.Frag) (n : Nat) (t : TGs) : TG := fun v σ H Q => ∃ a xs, v = .ref a ∧ SqT K H a xs ∧ xs.length = n ∧ t xs σ H Q
theorem pg_tup {es : List Expr} {k : Nat} {t : TGs} {n : Nat} (hc : X.calm = true) (h : PGs X es t)
    (hn : (assignEach es X.env).length = n := by rfl) (hst : (assignEach es X.env).findIdx? (·.1) = none := by rfl) : PG X (.Tuple es k pos) (gTup X.K n t) := by
  intro pins s σ H v u Q I r hw
  obtain ⟨a, xs, e1, hq, hl, hw⟩ := hw
  subst e1
  cases r
  obtain ⟨its, rv, ht, hz⟩ := I.tuple hq
  refine assign_Tuple_tuple (I.ok.hd hc) ht (by simp [hn, ← hl, rv.length]) hst fun h' hx => ?_
  have I1 : Inv X pins σ H { s with heap := h' } := I.kept (t' := s.toks) fun b o e => hx b o (Nat.ne_of_lt (Heap.lt_size e)) e
  exact h pins _ σ H xs _ Q I1 (by simpa using rv) hw
def tAsg (te : TE) (g : TG) : TS := fun D σ H => te σ H fun x H1 => g x σ H1 D.nx
theorem ps_asg {tg e : Expr} {te : TE} {g : TG} (he : PE X e te) (hg : PG X tg g) (hs : swapsWithSole [tg] e pos.line X.env = pure false := by rfl) (hw : swappedStores [tg] e X.env = pure none := by rfl)
    (h1 : (assignEach [tg] X.env).map (·.2) = [assign tg X.env] := by rfl) : PS X (.Assign [tg] e pos) (tAsg te g) := by
  intro pins s σ H D I h
  refine wpAny_Assign_stores (thn (he pins s σ H _ I h) fun v s1 ⟨x, H1, I1, r1, q1⟩ => ?_) hs hw
  rw [h1]
  exact thn (hg pins s1 σ H1 x v _ I1 r1 q1) fun _ s2 q => q
theorem ps_set {i : Nat} {x : Str} {e : Expr} {te : TE} {pos' : Pos} (hN : X.N.Nodup) (hi : X.N[i]? = some x) (hx : Loc X.env.scope x) (he : PE X e te) (hs : swapsWith e (some (.Name x pos')) pos.line X.env = pure false := by rfl) (hf : X.fn x = true ∨ X.env.scope.names.lookup x = some .local := by first | exact .inl rfl | exact .inr rfl | assumption) :
    PS X (.Assign [.Name x pos'] e pos) (tAsg te (gName i)) := by
  intro pins s σ H D I h
  refine wpAny_Assign_Name (thn (he pins s σ H _ I h) fun v s1 ⟨y, H1, I1, r1, q1⟩ => ?_) hs
  exact store_ok I1 hN hi hx r1 (fun s2 I2 => ⟨_, H1, I2, q1⟩) hf
def tPar (i j : Nat) (ta : TA) : TS := fun D σ H => ta σ H fun vs H1 => ∃ v w, vs = [v, w] ∧ D.nx ((σ.set i (some v)).set j (some w)) H1
theorem ps_par {i j : Nat} {x y : Str} {a b : Expr} {ta : TA} {px py pt : Pos} {kt k2 pt2} (hc : X.calm = true) (hN : X.N.Nodup) (hi : X.N[i]? = some x) (hj : X.N[j]? = some y) (hij : i ≠ j)
    (hx : X.env.scope.names.lookup x = some .local) (hy : X.env.scope.names.lookup y = some .local) (ha : PA X [a, b] ta)
    (hw : swappedStores [.Tuple [.Name x px, .Name y py] kt pt] (.Tuple [a, b] k2 pt2) X.env = pure (some [x, y]))
    (hs : swapsWithSole [.Tuple [.Name x px, .Name y py] kt pt] (.Tuple [a, b] k2 pt2) pos.line X.env = pure false := by rfl) :
    PS X (.Assign [.Tuple [.Name x px, .Name y py] kt pt] (.Tuple [a, b] k2 pt2) pos) (tPar i j ta) := by
  intro pins s σ H D I h
  rw [exec_Assign_arm]
  refine wpAny_bind (wpAny_standAt ?_)
  rw [hs]
  refine wpAny_bind (wpAny_pure ?_)
  rw [if_neg (by decide)]
  refine wpAny_bind (Tuple_ (thn (ha _ pins s σ H _ I h) fun us s1 ⟨vs, H1, I1, r1, q1⟩ => ?_))
  obtain ⟨v, w, e1, q1⟩ := q1
  subst e1
  obtain ⟨u1, u2, rfl, rv, rw'⟩ : ∃ u1 u2, us = [u1, u2] ∧ RelV v u1 ∧ RelV w u2 := by
    cases r1 with
    | cons p q =>
      cases q with
      | cons p' q' =>
        cases q'
        exact ⟨_, _, rfl, p, p'⟩
  refine wpAny_newObj_type ?_ (by show 2 ≤ sizeLine; decide)
  have I2 : Inv X pins σ H1 { s1 with heap := s1.heap.push { cls := .type "tuple", data := .seq [u1, u2].toArray } } := I1.kept (t' := s1.toks) fun b o e => Heap.get?_push_of_some _ e
  rw [hw]
  refine wpAny_bind (wpAny_pure ?_)
  show wpAny (model X.prog X.w) X.A (do rule "assign.swapped-stores"; let items ← unpackItems (.ref s1.heap.objs.size) 2 none; assignInOrder [fun v => bindName X.env y v, fun v => bindName X.env x v] items.reverse; pure Flow.next) _ _ _
  refine wpAny_bind (wpAny_rule (wpAny_bind (unpackItems_tuple (items := #[u1, u2]) (I.ok.hd hc) (IsTup.new s1.heap _) fun h' hx' => ?_)))
  have I3 := I2.kept (h' := h') (t' := s1.toks) fun b o e => hx' b o (Nat.ne_of_lt (Heap.lt_size e)) e
  show wpAny _ _ (assignInOrder [fun v => bindName X.env y v, fun v => bindName X.env x v] [u2, u1] >>= fun _ => pure Flow.next) _ _ _
  refine wpAny_bind (assignInOrder_cons (wpAny_bindName (store_ok I3 hN hj (.inl hy) rw' (fun s2 I4 => ?_) (.inr hy))))
  refine assignInOrder_cons (wpAny_bindName (store_ok I4 hN hi (.inl hx) rv (fun s3 I5 => assignInOrder_nil (wpAny_pure ?_)) (.inr hx)))
  rw [List.set_comm _ _ (Ne.symm hij)] at I5
  exact ⟨_, H1, I5, q1⟩
end

section
variable {X : Cx} {pos : Pos}
def tWhile (c : TT) (tb : TS) : TS := fun D σ H => ∃ W : Nat → St → Hp → Prop, (∃ m, W m σ H) ∧ ∀ m σ H, W m σ H →
  c σ H fun b H1 => if b = true then ∃ N : St → Hp → Prop, (∀ σ' H', N σ' H' → ∃ m', m' < m ∧ W m' σ' H') ∧ tb { D with nx := N, ct := N, bk := D.nx } σ H1 else D.nx σ H1
theorem ps_while {c : Expr} {body : List Stmt} {tc : TT} {tb : TS} (hp : PassesOwn (model X.prog X.w) X.A X.env X.xe) (hc : PT X c tc) (hb : PSs X body tb) : PS X (.While c body [] pos) (tWhile tc tb) := by
  intro pins s σ H D I h
  obtain ⟨W, ⟨m0, w0⟩, turn⟩ := h
  refine wpAny_While (codeAny_whileLoop (fun n s' => ∃ σ' H', Inv X pins σ' H' s' ∧ W n σ' H') ?_ m0 ⟨σ, H, I, w0⟩)
  rintro n s1 ⟨σ1, H1, I1, w1⟩
  refine wpAny_passesOwn hp (thn (hc pins s1 σ1 H1 _ I1 (turn n σ1 H1 w1)) fun b s2 ⟨H2, I2, q2⟩ => ?_)
  cases b with
  | true =>
    obtain ⟨N, hN, q2⟩ := q2
    rw [if_pos rfl]
    refine wpAny_passesOwn hp (thn (hb pins s2 σ1 H2 _ I2 q2) fun f s3 q3 => ?_)
    cases f with
    | next =>
      obtain ⟨σ3, H3, I3, n3⟩ := q3
      obtain ⟨m', hm, w3⟩ := hN σ3 H3 n3
      exact ⟨m', hm, σ3, H3, I3, w3⟩
    | cont =>
      obtain ⟨σ3, H3, I3, n3⟩ := q3
      obtain ⟨m', hm, w3⟩ := hN σ3 H3 n3
      exact ⟨m', hm, σ3, H3, I3, w3⟩
    | brk => exact q3
    | ret v => exact q3
  | false =>
    rw [if_neg Bool.false_ne_true]
    exact wpAny_execs_nil ⟨σ1, H2, I2, q2⟩
end

structure It where
  go : Nat → Hp → Prop
  yld : Nat → Hp → V → Hp → Prop
  stop : Nat → Hp → Prop
def FpOk (X : Cx) (pins : List (Addr × Obj)) (H : Hp) (b : Addr) : Prop :=
  H b = none ∧ b ≠ X.env.locals ∧ b ∉ X.fs ∧ (b ∈ X.ex ∨ X.s₀.heap.objs.size ≤ b) ∧ (∀ x c, X.env.cells.lookup x = some c → c ≠ b) ∧ ∀ p ∈ X.pn ++ pins, p.1 ≠ b
theorem Inv.fpOk {X : Cx} {pins : List (Addr × Obj)} {σ : St} {H H' : Hp} {s : Shared} {b : Addr} (I : Inv X pins σ H s) (hb : s.heap.objs.size ≤ b) (hn : H' b = none) : FpOk X pins H' b := by
  refine ⟨hn, Nat.ne_of_gt (Nat.lt_of_lt_of_le I.lt hb), I.nofs hb, .inr (Nat.le_trans I.sz hb), fun x c e z => ?_, fun p hp z => ?_⟩
  · obtain ⟨v, q⟩ := I.cell x c e
    exact absurd (Nat.lt_of_lt_of_le q.lt (by rw [z]; exact hb)) (Nat.lt_irrefl _)
  · exact absurd (Nat.lt_of_lt_of_le (Heap.lt_size (I.pin p hp).1) (by rw [z]; exact hb)) (Nat.lt_irrefl _)
structure Turn (P : Program) (w : World) (K : PySem.W.Frag) (tg : Expr) (J : It) (fp : List Addr) (it : Addr) (tn : Nat → Heap → Prop) : Prop where
  mem : it ∈ fp
  obj : ∀ i h, tn i h → ∀ b ∈ fp, ∃ o, h.get? b = some o ∧ ∀ v, o.data ≠ .cell v
  keep : ∀ i h h', tn i h → (∀ b ∈ fp, ∀ o, h.get? b = some o → h'.get? b = some o) → tn i h'
  item : ∀ (X : Cx), X.prog = P → X.w = w → X.K = K → X.calm = true → ∀ (i : Nat) (pins : List (Addr × Obj)) (s : Shared) (σ : St) (H : Hp) (E : Value → Shared → Prop), Inv X pins σ H s → (∀ b ∈ fp, FpOk X pins H b) → tn i s.heap → J.go i H →
    wpAny (model P w) X.A (pyNext (.ref it)) (fun r s1 => ∃ u, r = some u ∧
      wpAny (model P w) X.A (letOwnedTupleGo tg (.ref it) u) (fun _ s2 => ∃ x H', Inv X pins σ H' s2 ∧ RelV x u ∧ J.yld i H x H' ∧ tn (i + 1) s2.heap ∧ ∀ b ∈ fp, H' b = none) E s1) E s
  done : ∀ (X : Cx), X.prog = P → X.w = w → X.K = K → X.calm = true → ∀ (i : Nat) (pins : List (Addr × Obj)) (s : Shared) (σ : St) (H : Hp) (E : Value → Shared → Prop), Inv X pins σ H s → (∀ b ∈ fp, FpOk X pins H b) → tn i s.heap → J.stop i H →
    wpAny (model P w) X.A (pyNext (.ref it)) (fun r s1 => r = none ∧ Inv X pins σ H s1) E s
  self : ∀ (A : Around) (i : Nat) (s : Shared) (Q : Value → Shared → Prop) (E : Value → Shared → Prop), tn i s.heap → Q (.ref it) s → wpAny (model P w) A (pyIter (.ref it)) Q E s
abbrev TI := St → Hp → (It → Hp → Prop) → Prop
def PIE (X : Cx) (pins : List (Addr × Obj)) (σ : St) (tg : Expr) (R : It → Hp → Prop) (itv : Value) (s2 : Shared) : Prop :=
  ∃ (it : Addr) (fp : List Addr) (tn : Nat → Heap → Prop) (J : It) (H' : Hp), itv = .ref it ∧ Inv X pins σ H' s2 ∧ Turn X.prog X.w X.K tg J fp it tn ∧ tn 0 s2.heap ∧ (∀ b ∈ fp, FpOk X pins H' b) ∧ R J H'
def PI (X : Cx) (tg iter : Expr) (wi : TI) : Prop :=
  ∀ (pins : List (Addr × Obj)) (s : Shared) (σ : St) (H : Hp) (R : It → Hp → Prop), Inv X pins σ H s → wi σ H R →
    wpAny (model X.prog X.w) X.A (eval iter X.env) (fun v s1 => wpAny (model X.prog X.w) X.A (pyIter v) (PIE X pins σ tg R) X.xe s1) X.xe s

theorem go_of {M : Model} {A : Around} {E : Value → Shared → Prop} {s : Shared} {tg : Expr} {it : Addr} {u : Value} {o : Obj} {n : String} {vs : Array Value} {Q : Unit → Shared → Prop} (ho : s.heap.get? it = some o) (hc : o.cls = .type n) (hd : o.data = .fields vs)
    (hn : ["enumerate", "zip", "dict_itemiterator", "dict_reverseitemiterator", "odict_iterator", "itertools.zip_longest", "itertools.pairwise"].contains n = false) (hQ : Q () s) : wpAny M A (letOwnedTupleGo tg (.ref it) u) Q E s := by
  unfold letOwnedTupleGo
  cases tg <;> first
    | exact wpAny_pure hQ
    | (cases u <;> first
        | exact wpAny_pure hQ
        | (refine wpAny_bind (wpAny_load ho ?_)
           rw [hc, hd]
           show wpAny M A (if (["enumerate", "zip", "dict_itemiterator", "dict_reverseitemiterator", "odict_iterator", "itertools.zip_longest", "itertools.pairwise"].contains n && vs[0]? == some (rawInt _)) = true then _ else _) Q E s
           rw [if_neg (by intro h; rw [hn, Bool.false_and] at h; cases h)]
           exact wpAny_pure hQ))

def Itl (K : PySem.W.Frag) (a : Addr) : It :=
  ⟨fun i H => ∃ xs x, SqL K H a xs ∧ xs[i]? = some x, fun i H x H' => H' = H ∧ ∀ xs, SqL K H a xs → xs[i]? = some x, fun i H => ∃ xs, SqL K H a xs ∧ xs.length ≤ i⟩
def Itt (K : PySem.W.Frag) (a : Addr) : It :=
  ⟨fun i H => ∃ xs x, SqT K H a xs ∧ xs[i]? = some x, fun i H x H' => H' = H ∧ ∀ xs, SqT K H a xs → xs[i]? = some x, fun i H => ∃ xs, SqT K H a xs ∧ xs.length ≤ i⟩
def Itr (lo : Int) (n : Nat) : It := ⟨fun i _ => i < n, fun i H x H' => H' = H ∧ x = .int (lo + i), fun i _ => n ≤ i⟩
theorem turn_list {P : Program} {w : World} {K : PySem.W.Frag} {tg : Expr} (a it : Addr) : Turn P w K tg (Itl K a) [it] it (fun i h => h.IsListIter it a i) where
  mem := by simp
  obj := fun i h st b hb => by
    have e : b = it := by simpa using hb
    subst e
    obtain ⟨o, e, c, d⟩ := st
    exact ⟨o, e, fun v z => by rw [d] at z; cases z⟩
  keep := fun i h h' st k => st.at fun o e => k it (by simp) o e
  item := by
    intro X hP hw hK hc i pins s σ H E I hf st hg
    subst hP hw hK
    obtain ⟨xs, x, hq, hx⟩ := hg
    obtain ⟨its, rv, p, hz⟩ := I.list hq
    obtain ⟨u, hu, ru⟩ := rv.get hx
    obtain ⟨f0, f1, f2, f3, f4, f5⟩ := hf it (by simp)
    refine wpAny_pyNext_list_item st p.isList (x := u) (by simpa using hu) fun h' st' sb => ?_
    have I1 : Inv X pins σ H { s with heap := h' } := I.turned (t' := s.toks) (fun b o hb e => (sb.2 b hb).trans e) f0 f1 f3 f4 f5
    obtain ⟨o, e, c, d⟩ := id st'
    exact ⟨u, rfl, go_of (s := { s with heap := h' }) e c d (by decide) ⟨x, H, I1, ru, ⟨rfl, fun ys hy => by rw [I.list_inj hy hq]; exact hx⟩, st', fun b hb => (hf b hb).1⟩⟩
  done := by
    intro X hP hw hK hc i pins s σ H E I hf st hg
    subst hP hw hK
    obtain ⟨xs, hq, hx⟩ := hg
    obtain ⟨its, rv, p, hz⟩ := I.list hq
    obtain ⟨f0, f1, f2, f3, f4, f5⟩ := hf it (by simp)
    have hl := rv.length
    exact wpAny_pyNext_list_end (I.ok.hd hc) st p.isList (by simp; omega) fun h' eb => ⟨rfl, I.turned (t' := s.toks) (fun b o hb e => eb b o hb e) f0 f1 f3 f4 f5⟩
  self := fun _ _ _ _ _ st h => wpAny_pyIter_listiter st h
theorem turn_tuple {P : Program} {w : World} {K : PySem.W.Frag} {tg : Expr} (a it : Addr) : Turn P w K tg (Itt K a) [it] it (fun i h => h.IsTupleIter it a i) where
  mem := by simp
  obj := fun i h st b hb => by
    have e : b = it := by simpa using hb
    subst e
    obtain ⟨o, e, c, d⟩ := st
    exact ⟨o, e, fun v z => by rw [d] at z; cases z⟩
  keep := fun i h h' st k => st.at fun o e => k it (by simp) o e
  item := by
    intro X hP hw hK hc i pins s σ H E I hf st hg
    subst hP hw hK
    obtain ⟨xs, x, hq, hx⟩ := hg
    obtain ⟨its, rv, p, hz⟩ := I.tuple hq
    obtain ⟨u, hu, ru⟩ := rv.get hx
    obtain ⟨f0, f1, f2, f3, f4, f5⟩ := hf it (by simp)
    refine wpAny_pyNext_tuple_item st (show s.heap.IsTuple a its.toArray from p) (x := u) (by simpa using hu) fun h' st' sb => ?_
    have I1 : Inv X pins σ H { s with heap := h' } := I.turned (t' := s.toks) (fun b o hb e => (sb.2 b hb).trans e) f0 f1 f3 f4 f5
    obtain ⟨o, e, c, d⟩ := id st'
    exact ⟨u, rfl, go_of (s := { s with heap := h' }) e c d (by decide) ⟨x, H, I1, ru, ⟨rfl, fun ys hy => by rw [I.tuple_inj hy hq]; exact hx⟩, st', fun b hb => (hf b hb).1⟩⟩
  done := by
    intro X hP hw hK hc i pins s σ H E I hf st hg
    subst hP hw hK
    obtain ⟨xs, hq, hx⟩ := hg
    obtain ⟨its, rv, p, hz⟩ := I.tuple hq
    obtain ⟨f0, f1, f2, f3, f4, f5⟩ := hf it (by simp)
    have hl := rv.length
    exact wpAny_pyNext_tuple_end (I.ok.hd hc) st (show s.heap.IsTuple a its.toArray from p) (by simp; omega) fun h' eb => ⟨rfl, I.turned (t' := s.toks) (fun b o hb e => eb b o hb e) f0 f1 f3 f4 f5⟩
  self := fun _ _ _ _ _ st h => wpAny_pyIter_tupleiter st h
theorem turn_range {P : Program} {w : World} {K : PySem.W.Frag} {tg : Expr} (it : Addr) (lo : Int) (n : Nat) : Turn P w K tg (Itr lo n) [it] it (fun i h => IsRangeIter h it (lo + (i : Nat) * 1) ((n : Int) - (i : Nat)) 1) where
  mem := by simp
  obj := fun i h st b hb => by
    have e : b = it := by simpa using hb
    subst e
    exact ⟨_, st, fun v z => by
      have z' : Data.fields _ = Data.cell v := z
      cases z'⟩
  keep := fun i h h' st k => k it (by simp) _ st
  item := by
    intro X hP hw hK hc i pins s σ H E I hf st hg
    subst hP hw hK
    obtain ⟨f0, f1, f2, f3, f4, f5⟩ := hf it (by simp)
    have W := Walks.range (prog := X.prog) (w := X.w) (I.ok.hd hc) it lo 1 n
    refine W.item i s _ _ hg st fun v h' tk hv st' kk => ?_
    obtain ⟨t, rfl⟩ := hv
    have I1 : Inv X pins σ H { s with heap := h', toks := tk } := I.turned (fun b o hb e => kk b o (by simpa using hb) e) f0 f1 f3 f4 f5
    refine ⟨_, rfl, go_of (s := { s with heap := h', toks := tk }) (n := "range_iterator") st' rfl rfl (by decide) ⟨.int (lo + i), H, I1, ⟨t, ?_⟩, ⟨rfl, rfl⟩, st', fun b hb => (hf b hb).1⟩⟩
    rw [Int.mul_one]
  done := by
    intro X hP hw hK hc i pins s σ H E I hf st hg
    subst hP hw hK
    obtain ⟨f0, f1, f2, f3, f4, f5⟩ := hf it (by simp)
    exact wpAny_pyNext_range_end (I.ok.hd hc) st (by have : n ≤ i := hg; omega) fun h' eb => ⟨rfl, I.turned (t' := s.toks) (fun b o hb e => eb b o hb e) f0 f1 f3 f4 f5⟩
  self := fun _ _ _ _ _ st h => wpAny_pyIter_rangeiter st h
end L2

namespace L2
open PySem PySem.Spec PyProof.Rows
section
variable {X : Cx} {tg : Expr}
theorem range_it {pins : List (Addr × Obj)} {σ : St} {H : Hp} {s : Shared} {R : It → Hp → Prop} {E : Value → Shared → Prop} {lo hi : Int} {t u v : Tok} {tk : Nat} (I : Inv X pins σ H s) (h1 : -(2 ^ 62) ≤ lo) (h2 : lo < 2 ^ 62) (h3 : -(2 ^ 62) ≤ hi) (h4 : hi < 2 ^ 62)
    (q : R (Itr lo (hi - lo).toNat) H) : wpAny (model X.prog X.w) X.A (pyIter (.ref s.heap.objs.size)) (PIE X pins σ tg R) E { s with heap := s.heap.push { cls := .type "range", data := .fields #[.int lo t, .int hi u, .int 1 v] }, toks := tk } := by
  refine wpAny_pyIter_range (IsRange.new ..) (small_one h1 h2 h3 h4) ?_
  have I1 : Inv X pins σ H { s with heap := s.heap.push { cls := .type "range", data := .fields #[.int lo t, .int hi u, .int 1 v] }, toks := tk } := I.kept fun b o e => Heap.get?_push_of_some _ e
  refine ⟨(s.heap.push { cls := .type "range", data := .fields #[.int lo t, .int hi u, .int 1 v] }).objs.size, [(s.heap.push { cls := .type "range", data := .fields #[.int lo t, .int hi u, .int 1 v] }).objs.size], _, _, H, rfl,
    I1.kept (t' := tk) fun b o e => Heap.get?_push_of_some _ e, turn_range _ lo (hi - lo).toNat, ?_, fun b hb => ?_, q⟩
  · have e1 : lo + ((0 : Nat) : Int) * 1 = lo := by simp
    have e2 : (((hi - lo).toNat : Nat) : Int) - ((0 : Nat) : Int) = Builtin.Range.rangeSize lo hi 1 := by rw [rangeSize_one]; split <;> omega
    show IsRangeIter _ _ (lo + ((0 : Nat) : Int) * 1) ((((hi - lo).toNat : Nat) : Int) - ((0 : Nat) : Int)) 1
    rw [e1, e2]
    exact Heap.get?_push_size _ rfl
  · have e : b = (s.heap.push { cls := .type "range", data := .fields #[.int lo t, .int hi u, .int 1 v] }).objs.size := by simpa using hb
    subst e
    exact I1.fpOk (Nat.le_refl _) (I1.hok.fresh (Nat.le_refl _))
def iRng1 (ta : TA) : TI := fun σ H R => ta σ H fun vs H1 => ∃ j : Int, vs = [.int j] ∧ -(2 ^ 62) ≤ j ∧ j < 2 ^ 62 ∧ R (Itr 0 j.toNat) H1
def iRng2 (ta : TA) : TI := fun σ H R => ta σ H fun vs H1 => ∃ i j : Int, vs = [.int i, .int j] ∧ (-(2 ^ 62) ≤ i ∧ i < 2 ^ 62 ∧ -(2 ^ 62) ≤ j ∧ j < 2 ^ 62) ∧ R (Itr i (j - i).toNat) H1
theorem pi_range1 {a : Expr} {ta : TA} {p pos : Pos} (hg : Gl X "range") (hm : X.mg "range" = none) (ha : PA X [a] ta) (hs : starEach [a] X.env = [(false, eval a X.env)] := by rfl) : PI X tg (.Call (.Name "range" p) [a] [] pos) (iRng1 ta) := by
  intro pins s σ H R I h
  refine Call_ (ld_blt I hg hm boot_range (PyProof.Rows.callWith_type1 (thn (ha pos pins s σ H _ I h) fun us s1 ⟨vs, H1, I1, r1, q1⟩ => ?_) hs rfl))
  obtain ⟨j, e, q1, q2, q⟩ := q1
  subst e
  cases r1 with
  | cons r rr =>
    cases rr
    obtain ⟨t, rfl⟩ := r
    exact call_range_1 (range_it I1 (by omega) (by omega) q1 q2 (by simpa using q))
theorem pi_range2 {a b : Expr} {ta : TA} {p pos : Pos} (hg : Gl X "range") (hm : X.mg "range" = none) (ha : PA X [a, b] ta) (hs : starEach [a, b] X.env = [(false, eval a X.env), (false, eval b X.env)] := by rfl) (hs2 : starEach [b] X.env = [(false, eval b X.env)] := by rfl) :
    PI X tg (.Call (.Name "range" p) [a, b] [] pos) (iRng2 ta) := by
  intro pins s σ H R I h
  refine Call_ (ld_blt I hg hm boot_range (PyProof.Rows.callWith_type1 (thn (ha pos pins s σ H _ I h) fun us s1 ⟨vs, H1, I1, r1, q1⟩ => ?_) (by rw [hs, hs2]) (by rw [hs2]; rfl)))
  obtain ⟨i, j, e, ⟨q1, q2, q3, q4⟩, q⟩ := q1
  subst e
  cases r1 with
  | cons r rr =>
    cases rr with
    | cons r' rr =>
      cases rr
      obtain ⟨t, rfl⟩ := r
      obtain ⟨t', rfl⟩ := r'
      exact call_range_2 (range_it I1 q1 q2 q3 q4 q)

def tFor (wi : TI) (g : TG) (tb : TS) : TS := fun D σ H => wi σ H fun J H1 => ∃ W : Nat → Nat → St → Hp → Prop, (∃ m, W 0 m σ H1) ∧ ∀ i m σ H, W i m σ H →
  (J.stop i H ∧ D.nx σ H) ∨ (J.go i H ∧ ∃ N : St → Hp → Prop, (∀ σ' H', N σ' H' → ∃ m', m' < m ∧ W (i + 1) m' σ' H') ∧ ∀ x H', J.yld i H x H' → g x σ H' fun σ2 H2 => tb { D with nx := N, ct := N, bk := D.nx } σ2 H2)
def pinsAt (fp : List Addr) (h : Heap) : List (Addr × Obj) := fp.filterMap fun b => (h.get? b).map fun o => (b, o)
theorem mem_pinsAt {fp : List Addr} {h : Heap} {b : Addr} {o : Obj} (hb : b ∈ fp) (e : h.get? b = some o) : (b, o) ∈ pinsAt fp h := List.mem_filterMap.mpr ⟨b, hb, by rw [e]; rfl⟩
theorem of_pinsAt {fp : List Addr} {h : Heap} {p : Addr × Obj} (hp : p ∈ pinsAt fp h) : p.1 ∈ fp ∧ h.get? p.1 = some p.2 := by
  obtain ⟨b, hb, e⟩ := List.mem_filterMap.mp hp
  cases q : h.get? b with
  | none => rw [q] at e; cases e
  | some o =>
    rw [q] at e
    have e' : (b, o) = p := Option.some.inj e
    subst e'
    exact ⟨hb, q⟩
theorem Inv.pinned {pins : List (Addr × Obj)} {σ : St} {H : Hp} {s : Shared} {fp : List Addr} (I : Inv X pins σ H s) (hf : ∀ b ∈ fp, FpOk X pins H b) (ho : ∀ b ∈ fp, ∃ o, s.heap.get? b = some o ∧ ∀ v, o.data ≠ .cell v) : Inv X (pins ++ pinsAt fp s.heap) σ H s :=
  I.pins_of fun p hp => (List.mem_append.mp hp).elim (fun z => I.pin p (List.mem_append_right _ z)) fun z => by
    obtain ⟨hb, e⟩ := of_pinsAt z
    obtain ⟨f0, f1, f2, _⟩ := hf p.1 hb
    obtain ⟨o, e', d⟩ := ho p.1 hb
    rw [e] at e'; cases e'
    exact ⟨e, f0, f1, f2, d⟩
theorem Inv.unpinned {pins pl : List (Addr × Obj)} {σ : St} {H : Hp} {s : Shared} (I : Inv X (pins ++ pl) σ H s) : Inv X pins σ H s := I.pins_of fun p hp => I.pin p (List.mem_append_right _ (List.mem_append_left _ hp))
theorem ps_for {iter : Expr} {body : List Stmt} {wi : TI} {g : TG} {tb : TS} {pos : Pos} (hp : PassesOwn (model X.prog X.w) X.A X.env X.xe) (hc : X.calm = true) (hi : PI X tg iter wi) (hg : PG X tg g) (hb : PSs X body tb)
    (hs : ∀ x, foldedSetIterable iter X.env x = pure x := by intro _; rfl) : PS X (.For tg iter body [] pos) (tFor wi g tb) := by
  intro pins s σ H D I h
  refine wpAny_For (thn (hi pins s σ H _ I h) fun v s1 h1 => thn h1 fun itv s2 h2 => ?_) hs
  obtain ⟨it, fp, tn, J, H2, e, I2, T, st2, f2, W, ⟨m0, w0⟩, turn⟩ := h2
  subst e
  -- what stays true of the iterator's objects through the loop
  have stat : ∀ {H' : Hp}, (∀ b ∈ fp, H' b = none) → ∀ b ∈ fp, FpOk X pins H' b := fun hn b hb => ⟨hn b hb, (f2 b hb).2⟩
  refine codeAny_forLoop_any (fun n s' => ∃ i σ' H', Inv X pins σ' H' s' ∧ tn i s'.heap ∧ (∀ b ∈ fp, H' b = none) ∧ W i n σ' H') ?_ m0 ⟨0, σ, H2, I2, st2, fun b hb => (f2 b hb).1, w0⟩
  rintro n s3 ⟨i, σ3, H3, I3, st3, fr3, w3⟩
  rcases turn i n σ3 H3 w3 with ⟨stop, qn⟩ | ⟨go, N, hN, step⟩
  · refine wpAny_passesOwn hp (thn (T.done X rfl rfl rfl hc i pins s3 σ3 H3 X.xe I3 (stat fr3) st3 stop) fun r s4 ⟨hr, I4⟩ => ?_)
    subst hr
    exact wpAny_execs_nil ⟨σ3, H3, I4, qn⟩
  · refine wpAny_passesOwn hp (thn (T.item X rfl rfl rfl hc i pins s3 σ3 H3 X.xe I3 (stat fr3) st3 go) fun r s4 ⟨u, hr, h4⟩ => ?_)
    subst hr
    refine wpAny_passesOwn hp (thn h4 fun _ s5 ⟨x, H5, I5, r5, y5, st5, fr5⟩ => ?_)
    have I5' := I5.pinned (stat fr5) (T.obj _ _ st5)
    refine wpAny_passesOwn hp (thn (hg _ s5 σ3 H5 x u _ I5' r5 (step x H5 y5)) fun _ s6 ⟨σ6, H6, I6, q6⟩ => ?_)
    refine wpAny_passesOwn hp (thn (hb _ s6 σ6 H6 _ I6 q6) fun f s7 q7 => ?_)
    have again : ∀ {σ7 : St} {H7 : Hp}, Inv X (pins ++ pinsAt fp s5.heap) σ7 H7 s7 → N σ7 H7 → ∃ m, m < n ∧ ∃ i σ' H', Inv X pins σ' H' s7 ∧ tn i s7.heap ∧ (∀ b ∈ fp, H' b = none) ∧ W i m σ' H' := fun {σ7 H7} I7 n7 => by
      obtain ⟨m', hm, w7⟩ := hN σ7 H7 n7
      refine ⟨m', hm, i + 1, σ7, H7, I7.unpinned, T.keep _ _ _ st5 fun b hb o e => (I7.pin (b, o) (List.mem_append_right _ (List.mem_append_right _ (mem_pinsAt hb e)))).1, fun b hb => ?_, w7⟩
      obtain ⟨o, e, d⟩ := T.obj _ _ st5 b hb
      exact (I7.pin (b, o) (List.mem_append_right _ (List.mem_append_right _ (mem_pinsAt hb e)))).2.1
    cases f with
    | next => obtain ⟨σ7, H7, I7, n7⟩ := q7; exact again I7 n7
    | cont => obtain ⟨σ7, H7, I7, n7⟩ := q7; exact again I7 n7
    | brk => obtain ⟨σ7, H7, I7, q7⟩ := q7; exact ⟨σ7, H7, I7.unpinned, q7⟩
    | ret v => obtain ⟨x7, σ7, H7, I7, r7, q7⟩ := q7; exact ⟨x7, σ7, H7, I7.unpinned, r7, q7⟩
end

theorem for_list {K : PySem.W.Frag} {a : Addr} {xs : List V} {g : TG} {tb : TS} {D : Ends} {σ : St} {H : Hp} (Pv : Nat → St → Hp → Prop) (h0 : Pv 0 σ H) (hl : ∀ i σ H, i ≤ xs.length → Pv i σ H → SqL K H a xs)
    (hs : ∀ i x σ H, xs[i]? = some x → Pv i σ H → g x σ H fun σ2 H2 => tb { D with nx := Pv (i + 1), ct := Pv (i + 1), bk := D.nx } σ2 H2) (hd : ∀ σ H, Pv xs.length σ H → D.nx σ H) :
    ∃ W : Nat → Nat → St → Hp → Prop, (∃ m, W 0 m σ H) ∧ ∀ i m σ H, W i m σ H →
      ((Itl K a).stop i H ∧ D.nx σ H) ∨ ((Itl K a).go i H ∧ ∃ N : St → Hp → Prop, (∀ σ' H', N σ' H' → ∃ m', m' < m ∧ W (i + 1) m' σ' H') ∧ ∀ x H', (Itl K a).yld i H x H' → g x σ H' fun σ2 H2 => tb { D with nx := N, ct := N, bk := D.nx } σ2 H2) := by
  refine ⟨fun i m σ H => m = xs.length - i ∧ i ≤ xs.length ∧ Pv i σ H, ⟨xs.length, by simp, Nat.zero_le _, h0⟩, ?_⟩
  rintro i m σ H ⟨rfl, hi, p⟩
  have q := hl i σ H hi p
  by_cases hlt : i < xs.length
  · refine .inr ⟨⟨xs, xs[i], q, by simp [hlt]⟩, Pv (i + 1), fun σ' H' p' => ⟨xs.length - (i + 1), by omega, rfl, hlt, p'⟩, fun x H' y => ?_⟩
    obtain ⟨e, y⟩ := y
    subst e
    exact hs i x σ _ (y xs q) p
  · have e : i = xs.length := by omega
    subst e
    exact .inl ⟨⟨xs, q, Nat.le_refl _⟩, hd σ H p⟩
theorem for_range {lo : Int} {n : Nat} {g : TG} {tb : TS} {D : Ends} {σ : St} {H : Hp} (Pv : Nat → St → Hp → Prop) (h0 : Pv 0 σ H)
    (hs : ∀ i σ H, i < n → Pv i σ H → g (.int (lo + i)) σ H fun σ2 H2 => tb { D with nx := Pv (i + 1), ct := Pv (i + 1), bk := D.nx } σ2 H2) (hd : ∀ σ H, Pv n σ H → D.nx σ H) :
    ∃ W : Nat → Nat → St → Hp → Prop, (∃ m, W 0 m σ H) ∧ ∀ i m σ H, W i m σ H →
      ((Itr lo n).stop i H ∧ D.nx σ H) ∨ ((Itr lo n).go i H ∧ ∃ N : St → Hp → Prop, (∀ σ' H', N σ' H' → ∃ m', m' < m ∧ W (i + 1) m' σ' H') ∧ ∀ x H', (Itr lo n).yld i H x H' → g x σ H' fun σ2 H2 => tb { D with nx := N, ct := N, bk := D.nx } σ2 H2) := by
  refine ⟨fun i m σ H => m = n - i ∧ i ≤ n ∧ Pv i σ H, ⟨n, by simp, Nat.zero_le _, h0⟩, ?_⟩
  rintro i m σ H ⟨rfl, hi, p⟩
  by_cases hlt : i < n
  · refine .inr ⟨hlt, Pv (i + 1), fun σ' H' p' => ⟨n - (i + 1), by omega, rfl, hlt, p'⟩, fun x H' y => ?_⟩
    obtain ⟨e, y⟩ := y
    subst e y
    exact hs i σ _ hlt p
  · have e : i = n := by omega
    subst e
    exact .inl ⟨Nat.le_refl _, hd σ H p⟩
end L2

namespace L2
open PySem PySem.Spec PyProof.Rows

abbrev R2 := V → V → Hp → VK → Prop
def OpR (X : Cx) (f : Value → Value → Sem Value) (r : R2) : Prop :=
  ∀ (pins : List (Addr × Obj)) (s : Shared) (σ : St) (H : Hp) (x y : V) (v u : Value) (Q : VK), Inv X pins σ H s → RelV x v → RelV y u → r x y H Q →
    wpAny (model X.prog X.w) X.A (f v u) (EP X pins σ Q) X.xe s
def CallR (X : Cx) (f : Value) (r : List V → Hp → VK → Prop) : Prop :=
  ∀ (pins : List (Addr × Obj)) (s : Shared) (σ : St) (H : Hp) (xs : List V) (us : List Value) (Q : VK), Inv X pins σ H s → Vals xs us → r xs H Q →
    wpAny (model X.prog X.w) X.A (call f us) (EP X pins σ Q) X.xe s
def tOp (r : R2) (ta tb : TE) : TE := fun σ H Q => ta σ H fun x H1 => tb σ H1 fun y H2 => r x y H2 Q
def rI (C : Int → Int → Prop) (g : Int → Int → V) : R2 := fun x y H Q => ∃ i j, x = .int i ∧ y = .int j ∧ C i j ∧ Q (g i j) H
def rI0 (g : Int → Int → V) : R2 := fun x y H Q => ∃ i j, x = .int i ∧ y = .int j ∧ Q (g i j) H
def rU (g : Int → V) : V → Hp → VK → Prop := fun x H Q => ∃ i, x = .int i ∧ Q (g i) H

section
variable {X : Cx} {a b c : Expr} {ta tb tc : TE} {pos : Pos}

theorem binT (ha : PE X a ta) (hb : PE X b tb) {pins : List (Addr × Obj)} {s : Shared} {σ : St} {H : Hp} {R : V → V → Hp → Prop} (I : Inv X pins σ H s)
    (h : ta σ H fun x H1 => tb σ H1 fun y H2 => R x y H2) {Q : Value → Shared → Prop} {f : Value → Value → Sem Value}
    (hf : ∀ v u s2 x y H2, Inv X pins σ H2 s2 → RelV x v → RelV y u → R x y H2 → wpAny (model X.prog X.w) X.A (f v u) Q X.xe s2) :
    wpAny (model X.prog X.w) X.A (eval a X.env) (fun v s₁ => wpAny (model X.prog X.w) X.A (eval b X.env) (fun u s₂ => wpAny (model X.prog X.w) X.A (f v u) Q X.xe s₂) X.xe s₁) X.xe s := by
  refine thn (ha pins s σ H _ I h) fun v s1 ⟨x, H1, I1, r1, q1⟩ => ?_
  refine thn (hb pins s1 σ H1 _ I1 q1) fun u s2 ⟨y, H2, I2, r2, q2⟩ => ?_
  exact hf v u s2 x y H2 I2 r1 r2 q2

theorem pe_op {op : Operator} {r : R2} (ho : OpR X (binaryOp op) r) (ha : PE X a ta) (hb : PE X b tb) : PE X (.BinOp a op b pos) (tOp r ta tb) := by
  intro pins s σ H Q I h
  exact wpAny_BinOp (binT ha hb I h fun v u s2 x y H2 I2 rx ry q => ho pins s2 σ H2 x y v u Q I2 rx ry q)
theorem opI {f : Value → Value → Sem Value} {C : Int → Int → Prop} {g : Int → Int → Int}
    (rule : ∀ (i j : Int) (t u : Tok) (s : Shared) (Q : Value → Shared → Prop) (E : Value → Shared → Prop), C i j → Q (.int (g i j) s.toks) { s with toks := s.toks + 1 } → wpAny (model X.prog X.w) X.A (f (.int i t) (.int j u)) Q E s) :
    OpR X f (rI C fun i j => .int (g i j)) := by
  intro pins s σ H x y v u Q I rx ry h
  obtain ⟨i, j, rfl, rfl, hc, q⟩ := h
  obtain ⟨t, rfl⟩ := rx
  obtain ⟨t', rfl⟩ := ry
  exact rule i j t t' s _ _ hc ⟨.int (g i j), H, I.tok _, ⟨_, rfl⟩, q⟩
theorem opI0 {f : Value → Value → Sem Value} {g : Int → Int → Int}
    (rule : ∀ (i j : Int) (t u : Tok) (s : Shared) (Q : Value → Shared → Prop) (E : Value → Shared → Prop), Q (.int (g i j) s.toks) { s with toks := s.toks + 1 } → wpAny (model X.prog X.w) X.A (f (.int i t) (.int j u)) Q E s) :
    OpR X f (rI0 fun i j => .int (g i j)) := by
  intro pins s σ H x y v u Q I rx ry h
  obtain ⟨i, j, rfl, rfl, q⟩ := h
  obtain ⟨t, rfl⟩ := rx
  obtain ⟨t', rfl⟩ := ry
  exact rule i j t t' s _ _ ⟨.int (g i j), H, I.tok _, ⟨_, rfl⟩, q⟩
theorem opB0 {f : Value → Value → Sem Value} {g : Int → Int → Bool}
    (rule : ∀ (i j : Int) (t u : Tok) (s : Shared) (Q : Value → Shared → Prop) (E : Value → Shared → Prop), Q (.bool (g i j)) s → wpAny (model X.prog X.w) X.A (f (.int i t) (.int j u)) Q E s) :
    OpR X f (rI0 fun i j => .bl (g i j)) := by
  intro pins s σ H x y v u Q I rx ry h
  obtain ⟨i, j, rfl, rfl, q⟩ := h
  obtain ⟨t, rfl⟩ := rx
  obtain ⟨t', rfl⟩ := ry
  exact rule i j t t' s _ _ ⟨.bl (g i j), H, I, rfl, q⟩

def CPow (i j : Int) : Prop := 0 ≤ j ∧ j ≤ 1000000 ∧ i.natAbs < 2 ^ 64
def CMul (i j : Int) : Prop := (-(2 ^ 64) < i ∧ i < 2 ^ 64) ∨ (-(2 ^ 64) < j ∧ j < 2 ^ 64)
theorem CMul.ok {i j : Int} (h : CMul i j) : IntMulOk i j := by
  rcases h with ⟨h1, h2⟩ | ⟨h1, h2⟩
  · exact .of_left (intBits_le_64 h1 h2)
  · exact .of_right (intBits_le_64 h1 h2)
theorem op_add : OpR X (binaryOp .Add) (rI0 fun i j => .int (i + j)) := opI0 fun _ _ _ _ _ _ _ q => add_int q
theorem op_sub : OpR X (binaryOp .Sub) (rI0 fun i j => .int (i - j)) := opI0 fun _ _ _ _ _ _ _ q => sub_int q
theorem op_mod : OpR X (binaryOp .Mod) (rI (fun _ j => 0 < j) fun i j => .int (i % j)) := opI fun i j _ _ _ _ _ hc q => by
  have h1 : (0 : Int) < j := hc
  exact mod_int' (by omega) (by rw [Int.fmod_eq_emod_of_nonneg i (by omega)]; exact q)
theorem op_pow : OpR X (binaryOp .Pow) (rI CPow fun i j => .int (i ^ j.toNat)) := opI fun _ _ _ _ _ _ _ hc q => pow_int_small hc.1 hc.2.1 hc.2.2 q
end

def scal : V → V → Bool
  | .non, .non => true | .non, .int _ => true | .int _, .non => true | .non, .bl _ => true | .bl _, .non => true | .non, .str _ => true | .str _, .non => true
  | .int _, .int _ => true | .bl _, .bl _ => true | .str _, .str _ => true | .byt _, .byt _ => true
  | .int _, .str _ => true | .str _, .int _ => true | .bl _, .str _ => true | .str _, .bl _ => true
  | _, _ => false
def rEq : R2 := fun x y H Q => scal x y = true ∧ Q (.bl (decide (x = y))) H
def rNe : R2 := fun x y H Q => scal x y = true ∧ Q (.bl (!decide (x = y))) H

theorem dec_int {i j : Int} : decide (V.int i = V.int j) = (i == j) := by
  rw [Bool.eq_iff_iff]
  simp
theorem dec_bl {i j : Bool} : decide (V.bl i = V.bl j) = (i == j) := by
  rw [Bool.eq_iff_iff]
  simp
theorem dec_str {i j : Str} : decide (V.str i = V.str j) = (i == j) := by
  rw [Bool.eq_iff_iff]
  simp
theorem dec_byt {i j : Array UInt8} : decide (V.byt i = V.byt j) = (i.toList == j.toList) := by
  rw [Bool.eq_iff_iff]
  cases i
  cases j
  simp

section
variable {X : Cx} {a b c : Expr} {ta tb tc : TE} {pos : Pos}
theorem fin_bl {pins : List (Addr × Obj)} {σ : St} {H : Hp} {s : Shared} {Q : VK} {k k' : Bool} (I : Inv X pins σ H s) (q : Q (.bl k) H) (e : k = k') : EP X pins σ Q (.bool k') s := by
  subst e
  exact ⟨.bl k, H, I, rfl, q⟩
theorem op_eq : OpR X (compareOp .Eq) rEq := by
  intro pins s σ H x y v u Q I rx ry h
  obtain ⟨hs, q⟩ := h
  cases x with
  | non =>
    cases rx
    cases y with
    | non => cases ry; exact PySem.EqNone.eq_none_none (fin_bl I q (by simp))
    | bl j => cases ry; exact PySem.EqNone.eq_none_bool (fin_bl I q (by simp))
    | int j => obtain ⟨t', rfl⟩ := ry; exact PySem.EqNone.eq_none_int (fin_bl I q (by simp))
    | str j => obtain ⟨t', rfl⟩ := ry; exact PySem.EqNone.eq_none_str (fin_bl I q (by simp))
    | _ => exact absurd (show false = true from hs) Bool.false_ne_true
  | bl i =>
    cases rx
    cases y with
    | non => cases ry; exact PySem.EqNone.eq_bool_none (fin_bl I q (by simp))
    | bl j => cases ry; exact eq_bool (fin_bl I q dec_bl)
    | str j => obtain ⟨t', rfl⟩ := ry; exact PySem.EqMixed.eq_bool_str (fin_bl I q (by simp))
    | _ => exact absurd (show false = true from hs) Bool.false_ne_true
  | int i =>
    obtain ⟨t, rfl⟩ := rx
    cases y with
    | non => cases ry; exact PySem.EqNone.eq_int_none (fin_bl I q (by simp))
    | int j => obtain ⟨t', rfl⟩ := ry; exact eq_int (fin_bl I q dec_int)
    | str j => obtain ⟨t', rfl⟩ := ry; exact PySem.EqMixed.eq_int_str (fin_bl I q (by simp))
    | _ => exact absurd (show false = true from hs) Bool.false_ne_true
  | str i =>
    obtain ⟨t, rfl⟩ := rx
    cases y with
    | non => cases ry; exact PySem.EqNone.eq_str_none (fin_bl I q (by simp))
    | bl j => cases ry; exact PySem.EqMixed.eq_str_bool (fin_bl I q (by simp))
    | int j => obtain ⟨t', rfl⟩ := ry; exact PySem.EqMixed.eq_str_int (fin_bl I q (by simp))
    | str j => obtain ⟨t', rfl⟩ := ry; exact eq_str (fin_bl I q dec_str)
    | _ => exact absurd (show false = true from hs) Bool.false_ne_true
  | byt i =>
    obtain ⟨t, rfl⟩ := rx
    cases y with
    | byt j => obtain ⟨t', rfl⟩ := ry; exact PySem.W.eq_bytes (fin_bl I q dec_byt)
    | _ => exact absurd (show false = true from hs) Bool.false_ne_true
  | _ => cases y <;> exact absurd (show false = true from hs) Bool.false_ne_true
theorem op_ne : OpR X (compareOp .NotEq) rNe := by
  intro pins s σ H x y v u Q I rx ry h
  obtain ⟨hs, q⟩ := h
  cases x with
  | non =>
    cases rx
    cases y with
    | non => cases ry; exact PySem.EqNone.ne_none_none (fin_bl I q (by simp))
    | bl j => cases ry; exact PySem.EqNone.ne_none_bool (fin_bl I q (by simp))
    | int j => obtain ⟨t', rfl⟩ := ry; exact PySem.EqNone.ne_none_int (fin_bl I q (by simp))
    | str j => obtain ⟨t', rfl⟩ := ry; exact PySem.EqNone.ne_none_str (fin_bl I q (by simp))
    | _ => exact absurd (show false = true from hs) Bool.false_ne_true
  | bl i =>
    cases rx
    cases y with
    | non => cases ry; exact PySem.EqNone.ne_bool_none (fin_bl I q (by simp))
    | bl j => cases ry; exact ne_bool (fin_bl I q (congrArg not dec_bl))
    | str j => obtain ⟨t', rfl⟩ := ry; exact PySem.EqMixed.ne_bool_str (fin_bl I q (by simp))
    | _ => exact absurd (show false = true from hs) Bool.false_ne_true
  | int i =>
    obtain ⟨t, rfl⟩ := rx
    cases y with
    | non => cases ry; exact PySem.EqNone.ne_int_none (fin_bl I q (by simp))
    | int j => obtain ⟨t', rfl⟩ := ry; exact ne_int (fin_bl I q (congrArg not dec_int))
    | str j => obtain ⟨t', rfl⟩ := ry; exact PySem.EqMixed.ne_int_str (fin_bl I q (by simp))
    | _ => exact absurd (show false = true from hs) Bool.false_ne_true
  | str i =>
    obtain ⟨t, rfl⟩ := rx
    cases y with
    | non => cases ry; exact PySem.EqNone.ne_str_none (fin_bl I q (by simp))
    | bl j => cases ry; exact PySem.EqMixed.ne_str_bool (fin_bl I q (by simp))
    | int j => obtain ⟨t', rfl⟩ := ry; exact PySem.EqMixed.ne_str_int (fin_bl I q (by simp))
    | str j => obtain ⟨t', rfl⟩ := ry; exact ne_str (fin_bl I q (congrArg not dec_str))
    | _ => exact absurd (show false = true from hs) Bool.false_ne_true
  | byt i =>
    obtain ⟨t, rfl⟩ := rx
    cases y with
    | byt j => obtain ⟨t', rfl⟩ := ry; exact PySem.W.ne_bytes (fin_bl I q (congrArg not dec_byt))
    | _ => exact absurd (show false = true from hs) Bool.false_ne_true
  | _ => cases y <;> exact absurd (show false = true from hs) Bool.false_ne_true

theorem op_lt : OpR X (compareOp .Lt) (rI0 fun i j => .bl (decide (i < j))) := opB0 fun _ _ _ _ _ _ _ q => lt_int q
theorem op_le : OpR X (compareOp .LtE) (rI0 fun i j => .bl (decide (i ≤ j))) := opB0 fun _ _ _ _ _ _ _ q => le_int q
theorem op_ge : OpR X (compareOp .GtE) (rI0 fun i j => .bl (decide (j ≤ i))) := opB0 fun _ _ _ _ _ _ _ q => ge_int q
theorem op_in_str : OpR X (compareOp .In) (fun x y H Q => ∃ i j, x = .str i ∧ y = .str j ∧ Q (.bl (!(Builtin.Str.occurrences j i 0 j.length 1).isEmpty)) H) := by
  intro pins s σ H x y v u Q I rx ry h
  obtain ⟨i, j, rfl, rfl, q⟩ := h
  obtain ⟨t, rfl⟩ := rx
  obtain ⟨t', rfl⟩ := ry
  exact in_str (fin_bl I q rfl)

theorem op_isN : OpR X (compareOp .Is) (fun x y H Q => y = .non ∧ Q (.bl (decide (x = .non))) H) := by
  intro pins s σ H x y v u Q I rx ry h
  obtain ⟨rfl, q⟩ := h
  cases ry
  refine is_none_gen (fin_bl I q ?_)
  cases x <;> first
    | (cases rx; rfl)
    | (obtain ⟨t, rfl⟩ := rx; rfl)
theorem op_notN : OpR X (compareOp .IsNot) (fun x y H Q => y = .non ∧ Q (.bl (!decide (x = .non))) H) := by
  intro pins s σ H x y v u Q I rx ry h
  obtain ⟨rfl, q⟩ := h
  cases ry
  refine isnot_none_gen (fin_bl I q ?_)
  cases x <;> first
    | (cases rx; rfl)
    | (obtain ⟨t, rfl⟩ := rx; rfl)

theorem OpR.or {f : Value → Value → Sem Value} {r r' : R2} (h : OpR X f r) (h' : OpR X f r') : OpR X f (fun x y H Q => r x y H Q ∨ r' x y H Q) := by
  intro pins s σ H x y v u Q I rx ry q
  rcases q with q | q
  · exact h pins s σ H x y v u Q I rx ry q
  · exact h' pins s σ H x y v u Q I rx ry q

theorem nomark (b : Expr) {op : CmpOp} (h : op ≠ .In := by decide) (h2 : op ≠ .NotIn := by decide) : behindInMarks op b = false := by
  have e1 : (op == CmpOp.In) = false := by cases op <;> first | rfl | exact absurd rfl h
  have e2 : (op == CmpOp.NotIn) = false := by cases op <;> first | rfl | exact absurd rfl h2
  cases b <;> simp [behindInMarks, e1, e2]
theorem pe_cmpR {op : CmpOp} {r : R2} (ho : OpR X (compareOp op) r) (ha : PE X a ta) (hb : PE X b tb) (hm : behindInMarks op b = false) : PE X (.Compare a [op] [b] pos) (tOp r ta tb) := by
  intro pins s σ H Q I h
  exact wpAny_Compare1 (binT ha hb I h fun v u s2 x y H2 I2 rx ry q => ho pins s2 σ H2 x y v u Q I2 rx ry q) hm
def tTest (t : TE) : TT := fun σ H Q => t σ H fun x H' => ∃ k, x = .bl k ∧ Q k H'
theorem pt_cmpR {op : CmpOp} {r : R2} (ho : OpR X (compareOp op) r) (ha : PE X a ta) (hb : PE X b tb) (hm : behindInMarks op b = false) : PT X (.Compare a [op] [b] pos) (tTest (tOp r ta tb)) := by
  intro pins s σ H Q I h
  refine wpAny_isTrue_Compare1 (thn (ha pins s σ H _ I h) fun v s1 ⟨x, H1, I1, r1, q1⟩ => thn (hb pins s1 σ H1 _ I1 q1) fun u s2 ⟨y, H2, I2, r2, q2⟩ =>
    thn (ho pins s2 σ H2 x y v u _ I2 r1 r2 q2) fun c s3 ⟨z, H3, I3, r3, k, e, q3⟩ => ?_) hm
  subst e
  cases r3
  exact wpAny_truthy_bool ⟨H3, I3, q3⟩
def tChain (r r' : R2) (ta tb tc : TE) : TE := fun σ H Q => ta σ H fun x H1 => tb σ H1 fun y H2 => r x y H2 fun z H3 => ∃ k, z = .bl k ∧
  (if k = true then tc σ H3 fun w' H4 => r' y w' H4 Q else Q (.bl false) H3)
theorem pe_chain {op op' : CmpOp} {r r' : R2} (ho : OpR X (compareOp op) r) (ho' : OpR X (compareOp op') r') (ha : PE X a ta) (hb : PE X b tb) (hc : PE X c tc)
    (hm : lastMarks [op, op'] [b, c] = false := by with_unfolding_all rfl) : PE X (.Compare a [op, op'] [b, c] pos) (tChain r r' ta tb tc) := by
  intro pins s σ H Q I h
  refine Compare_chain (thn (ha pins s σ H _ I h) fun v s1 ⟨x, H1, I1, r1, q1⟩ => chain_link (thn (hb pins s1 σ H1 _ I1 q1) fun u s2 ⟨y, H2, I2, r2, q2⟩ =>
    thn (ho pins s2 σ H2 x y v u _ I2 r1 r2 q2) fun d s3 ⟨z, H3, I3, r3, k, e, q3⟩ => ?_)) hm
  subst e
  cases r3
  refine wpAny_truthy_bool ?_
  cases k with
  | false => exact ite_ff ⟨.bl false, H3, I3, rfl, q3⟩
  | true => exact ite_tt (chain_last (thn (hc pins s3 σ H3 _ I3 q3) fun w' s4 ⟨z', H4, I4, r4, q4⟩ => ho' pins s4 σ H4 y z' u w' Q I4 r2 r4 q4))
theorem pt_chain {op op' : CmpOp} {r r' : R2} (ho : OpR X (compareOp op) r) (ho' : OpR X (compareOp op') r') (ha : PE X a ta) (hb : PE X b tb) (hc : PE X c tc)
    (hm : lastMarks [op, op'] [b, c] = false := by with_unfolding_all rfl) : PT X (.Compare a [op, op'] [b, c] pos) (tTest (tChain r r' ta tb tc)) := by
  intro pins s σ H Q I h
  refine isTrue_chain (thn (ha pins s σ H _ I h) fun v s1 ⟨x, H1, I1, r1, q1⟩ => test_link (thn (hb pins s1 σ H1 _ I1 q1) fun u s2 ⟨y, H2, I2, r2, q2⟩ =>
    thn (ho pins s2 σ H2 x y v u _ I2 r1 r2 q2) fun d s3 ⟨z, H3, I3, r3, k, e, q3⟩ => ?_)) hm
  subst e
  cases r3
  refine wpAny_truthy_bool ?_
  cases k with
  | false =>
    obtain ⟨k', e', q'⟩ := q3
    cases e'
    exact ite_ff ⟨H3, I3, q'⟩
  | true =>
    refine ite_tt (test_last (thn (hc pins s3 σ H3 _ I3 q3) fun w' s4 ⟨z', H4, I4, r4, q4⟩ => thn (ho' pins s4 σ H4 y z' u w' _ I4 r2 r4 q4) fun d' s5 ⟨z2, H5, I5, r5, k2, e2, q5⟩ => ?_))
    subst e2
    cases r5
    exact wpAny_truthy_bool ⟨H5, I5, q5⟩

theorem line63 : (sizeLine : Nat) < 2 ^ 63 := by rw [sizeLine_eq]; decide
theorem op_add_str : OpR X (binaryOp .Add) (fun x y H Q => ∃ i j, x = .str i ∧ y = .str j ∧ i.length + j.length ≤ sizeLine ∧ Q (.str (i ++ j)) H) := by
  intro pins s σ H x y v u Q I rx ry h
  obtain ⟨i, j, rfl, rfl, hz, q⟩ := h
  obtain ⟨t, rfl⟩ := rx
  obtain ⟨t', rfl⟩ := ry
  exact add_str (fun t' tk => ⟨.str (i ++ j), H, I.tok _, ⟨_, rfl⟩, q⟩) hz
theorem vals1 {x : V} {us : List Value} (r : Vals [x] us) : ∃ u, us = [u] ∧ RelV x u := by
  cases r with
  | cons r1 r2 => cases r2; exact ⟨_, rfl, r1⟩
theorem vals2 {x y : V} {us : List Value} (r : Vals [x, y] us) : ∃ u w', us = [u, w'] ∧ RelV x u ∧ RelV y w' := by
  cases r with
  | cons r1 r2 =>
    cases r2 with
    | cons r3 r4 => cases r4; exact ⟨_, _, rfl, r1, r3⟩
theorem call_abs : CallR X (.builtin "abs") (fun xs H Q => ∃ i, xs = [.int i] ∧ Q (.int (if i < 0 then -i else i)) H) := by
  intro pins s σ H xs us Q I r h
  obtain ⟨i, rfl, q⟩ := h
  obtain ⟨u, rfl, t, rfl⟩ := vals1 r
  exact call_abs_int fun u tk => ⟨.int (if i < 0 then -i else i), H, I.tok _, ⟨_, rfl⟩, q⟩
theorem call_max2 (hc : X.calm = true) : CallR X (.builtin "max") (fun xs H Q => ∃ i j, xs = [.int i, .int j] ∧ Q (.int (if j > i then j else i)) H) := by
  intro pins s σ H xs us Q I r h
  obtain ⟨i, j, rfl, q⟩ := h
  obtain ⟨u, w', rfl, ⟨t, rfl⟩, ⟨t', rfl⟩⟩ := vals2 r
  refine max_two_ints (I.ok.hd hc) fun h' tk k => ⟨_, H, I.kept k, ?_, q⟩
  by_cases hj : j > i
  · rw [if_pos hj, if_pos hj]; exact ⟨_, rfl⟩
  · rw [if_neg hj, if_neg hj]; exact ⟨_, rfl⟩
theorem call_min2 (hc : X.calm = true) : CallR X (.builtin "min") (fun xs H Q => ∃ i j, xs = [.int i, .int j] ∧ Q (.int (if j < i then j else i)) H) := by
  intro pins s σ H xs us Q I r h
  obtain ⟨i, j, rfl, q⟩ := h
  obtain ⟨u, w', rfl, ⟨t, rfl⟩, ⟨t', rfl⟩⟩ := vals2 r
  refine min_two_ints (I.ok.hd hc) fun h' tk k => ⟨_, H, I.kept k, ?_, q⟩
  by_cases hj : j < i
  · rw [if_pos hj, if_pos hj]; exact ⟨_, rfl⟩
  · rw [if_neg hj, if_neg hj]; exact ⟨_, rfl⟩
end
end L2

namespace L2
open PySem PySem.Spec PyProof.Rows

structure ObjM (h : Heap) (x dx C : Addr) (mA : Str → Option Value) : Prop where
  obj : h.get? x = some (PySem.W.instObj C dx)
  ns : h.Ns1 dx mA
  ne : dx ≠ x

theorem lookIn_ns {h : Heap} {dx : Addr} {mA : Str → Option Value} (n : h.Ns1 dx mA) : ∃ od, h.get? dx = some od ∧ ∀ name, PySem.W.lookIn name od = some (mA name) := by
  obtain ⟨o, es, ep, ho, hd, hk, _, hm⟩ := n
  refine ⟨o, ho, fun name => ?_⟩
  have e := hm name
  unfold nsFind findBy at e
  rw [← Array.find?_toList] at e
  unfold PySem.W.lookIn
  rw [hd]
  dsimp only
  split
  · rename_i y q
    rw [q] at e
    exact congrArg some e
  · rename_i q
    rw [q] at e
    have a : es.toList.any (·.refKey) = false := by
      rw [List.any_eq_false]
      intro y hy
      obtain ⟨z, t, hkey⟩ := hk y (Array.mem_toList_iff.mp hy)
      simp [DictEntry.refKey, hkey]
    have a' : ¬ es.toList.any (·.refKey) = true := by rw [a]; exact Bool.false_ne_true
    rw [if_neg a']
    exact congrArg some e

theorem ObjM.look {h : Heap} {x dx C : Addr} {mA : Str → Option Value} (I : ObjM h x dx C mA) : ∃ od, PySem.W.InstAt h x (PySem.W.instObj C dx) C (some od) ∧ ∀ name, PySem.W.lookIn name od = some (mA name) :=
  let ⟨od, ho, hl⟩ := lookIn_ns I.ns
  ⟨od, ⟨I.obj, rfl, rfl, ho⟩, hl⟩

section
variable {prog : Program} {w : World} {A : Around} {E : Value → Shared → Prop} {s : Shared} {K : PySem.W.Frag} {x dx C f : Addr} {mA : Str → Option Value} {name : Str} {v : Value}

theorem get_map {expr : Bool} {Q : Value → Shared → Prop} (X : K.In s.heap) (I : ObjM s.heap x dx C mA) (hg : PySem.W.plainGet K C name = true) (hh : PySem.W.hasDictIn K C = true)
    (ha : PySem.W.findIn K (.ref C) name = some none) (hv : mA name = some v) (hv' : PySem.W.handedIn v = true) (h : Q v { s with toks := s.toks + 1 }) :
    wpAny (model prog w) A (getAttr (.ref x) name expr) Q E s := by
  obtain ⟨od, J, hl⟩ := I.look
  exact PySem.W.get_value X J (PySem.W.plainGet_of hg).1 (PySem.W.findObj_own hh ha rfl (by rw [hl, hv])) hv' h

theorem get_meth {pl : Sem Bool} {Q : Value × List Value → Shared → Prop} (X : K.In s.heap) (I : ObjM s.heap x dx C mA) (hg : PySem.W.plainGet K C name = true)
    (hf : PySem.W.findIn K (.ref C) name = some (some (.ref f))) (ht : PySem.W.isFn K (.ref f) = true) (hv : mA name = none) (h : Q (.ref f, [.ref x]) s) :
    wpAny (model prog w) A (getMethod (.ref x) name pl) Q E s := by
  obtain ⟨od, J, hl⟩ := I.look
  exact PySem.W.method_fn X J (PySem.W.plainGet_of hg).1 (PySem.W.plainGet_of hg).2 hf (beq_iff_eq.mp ht) (by show (PySem.W.lookIn name od).map (·.isSome) = some false; rw [hl, hv]; rfl) h

theorem set_map {ns : List Str} {Q : Unit → Shared → Prop} (X : K.In s.heap) (I : ObjM s.heap x dx C mA)
    (hs : PySem.W.findIn K (.ref C) "__setattr__" = some (some (.builtin "object.__setattr__"))) (hp : PySem.W.plainOver K C = true) (ht : PySem.W.takerIn K C name = some none) (hh : PySem.W.hasDictIn K C = true)
    (hw : PySem.Within mA ns) (hsz : ns.length ≤ sizeLine)
    (h : ∀ h', ObjM h' x dx C (fun y => if y = name then some v else mA y) → Heap.SameBut dx s.heap h' → Q () { s with heap := h', toks := s.toks + 2 }) :
    wpAny (model prog w) A (setAttr (.ref x) name v) Q E s := by
  obtain ⟨od, J, hl⟩ := I.look
  refine PySem.W.set_plain X J hs (PySem.W.osa_open (s := { s with toks := s.toks + 1 }) (r := none) X J hp ht fun b => ?_)
  obtain ⟨cd, hc, hd'⟩ := PySem.W.any_some hh
  have hx : s.heap.get? x = some ⟨.ref C, some dx, .plain, #[]⟩ := I.obj
  refine wpAny_bind (wpAny_pure (wpAny_bind (wpAny_bind (wpAny_loadPart hx (wpAny_bind (PySem.W.Looks.here (s := { s with toks := s.toks + 1 }) (PySem.W.looks_clsIn X hc) ?_))))))
  rw [hd']
  refine wpAny_pure (a := some dx) (wpAny_bind (wpAny_pure (wpAny_bind ?_)))
  refine wpAny_nsSet1 (s := { s with toks := s.toks + 1 }) I.ns fun h' hn2 hs2 => ?_
  obtain ⟨oD, esD, epD, hoD, hdD, hcD⟩ := hn2.count (PySem.Within.cons name v hw)
  refine wpAny_bind (wpAny_lookBehind hoD (by rw [hdD]; exact pastItsLine_dict (Nat.le_trans hcD (by rw [List.length_cons]; omega))) ?_)
  exact wpAny_pure (h _ ⟨(hs2.2 _ (Ne.symm I.ne)).trans I.obj, hn2, I.ne⟩ hs2)

theorem make_map {R : Result → Shared → Prop} {vs : List Value} {kw : List (Str × Value)} (X : K.In s.heap) (hm : PySem.W.makesIn K C = true)
    (hi : PySem.W.findIn K (.ref C) "__init__" = some (some (.ref f))) (hf : PySem.W.typeIn K (.ref f) = some (.type "function"))
    (h : codeAny (model prog w) (A.under (.builtin "type.__call__" ⟨.ref C :: vs, kw⟩)) (.call (.ref f) ⟨.ref (s.heap.objs.size + 1) :: vs, kw⟩) (PySem.W.InitBack (s.heap.objs.size + 1) R)
      { s with heap := (s.heap.push PySem.W.emptyDict).push (PySem.W.instObj C s.heap.objs.size) }) :
    codeAny (model prog w) A (.call (.ref C) ⟨vs, kw⟩) R s := by
  obtain ⟨hh, g, d, t, os⟩ := s
  exact PySem.W.make_core (PySem.W.makes_of X hm) (PySem.W.looks_findIn X hi) (fun self => PySem.W.bind_fn X self hf) (.inl rfl) h
end

def putF (f : Str) (v : V) : List (Str × V) → List (Str × V)
  | [] => [(f, v)]
  | (g, x) :: r => if g = f then (g, v) :: r else (g, x) :: putF f v r
theorem lookup_putF (f g : Str) (v : V) : ∀ fs : List (Str × V), (putF f v fs).lookup g = if g = f then some v else fs.lookup g
  | [] => by
    show List.lookup g [(f, v)] = _
    by_cases h : g = f
    · have hb : (g == f) = true := beq_iff_eq.mpr h
      simp only [List.lookup, hb, if_pos h]
    · have hb : (g == f) = false := beq_eq_false_iff_ne.mpr h
      simp only [List.lookup, hb, if_neg h]
  | (k, x) :: r => by
    have ih := lookup_putF f g v r
    rw [show putF f v ((k, x) :: r) = (if k = f then (k, v) :: r else (k, x) :: putF f v r) from rfl]
    by_cases hk : k = f
    · rw [if_pos hk]
      by_cases h : g = k
      · have hb : (g == k) = true := beq_iff_eq.mpr h
        simp only [List.lookup, hb, if_pos (h.trans hk)]
      · have hb : (g == k) = false := beq_eq_false_iff_ne.mpr h
        simp only [List.lookup, hb, if_neg (fun e : g = f => h (e.trans hk.symm))]
    · rw [if_neg hk]
      by_cases h : g = k
      · have hb : (g == k) = true := beq_iff_eq.mpr h
        simp only [List.lookup, hb, if_neg (fun e : g = f => hk (h.symm.trans e))]
      · have hb : (g == k) = false := beq_eq_false_iff_ne.mpr h
        simp only [List.lookup, hb]
        exact ih
theorem keys_putF (f : Str) (v : V) : ∀ fs : List (Str × V), f ∈ (putF f v fs).map (·.1) ∧ ∀ g, g ∈ fs.map (·.1) → g ∈ (putF f v fs).map (·.1)
  | [] => ⟨by simp [putF], fun g h => by simp at h⟩
  | (k, x) :: r => by
    obtain ⟨i1, i2⟩ := keys_putF f v r
    rw [show putF f v ((k, x) :: r) = (if k = f then (k, v) :: r else (k, x) :: putF f v r) from rfl]
    by_cases hk : k = f
    · rw [if_pos hk]
      subst hk
      exact ⟨by simp, fun g h => by simpa using h⟩
    · rw [if_neg hk]
      refine ⟨?_, fun g h => ?_⟩
      · rw [List.map_cons]
        exact List.mem_cons_of_mem _ i1
      · rw [List.map_cons] at h ⊢
        rcases List.mem_cons.mp h with e | e
        · exact List.mem_cons.mpr (.inl e)
        · exact List.mem_cons_of_mem _ (i2 g e)
theorem length_putF (f : Str) (v : V) : ∀ fs : List (Str × V), (putF f v fs).length ≤ fs.length + 1
  | [] => by simp [putF]
  | (k, x) :: r => by
    have ih := length_putF f v r
    rw [show putF f v ((k, x) :: r) = (if k = f then (k, v) :: r else (k, x) :: putF f v r) from rfl]
    by_cases hk : k = f
    · rw [if_pos hk, List.length_cons, List.length_cons]; omega
    · rw [if_neg hk, List.length_cons, List.length_cons]; omega

theorem RelO.some_of {v : V} {o : Option Value} (r : RelO (some v) o) : ∃ u, o = some u ∧ RelV v u := by
  cases o with
  | none => exact (show False from r).elim
  | some u => exact ⟨u, rfl, r⟩
theorem RelO.none_of {o : Option Value} (r : RelO none o) : o = none := by
  cases o with
  | none => rfl
  | some u => exact (show False from r).elim
theorem handed_of {v : V} {u : Value} (r : RelV v u) : PySem.W.handedIn u = true := by
  cases v with
  | non => cases (show u = Value.none from r); rfl
  | bl b => cases (show u = Value.bool b from r); rfl
  | int i => obtain ⟨t, e⟩ := (show ∃ t, u = Value.int i t from r); cases e; rfl
  | str x => obtain ⟨t, e⟩ := (show ∃ t, u = Value.str x t from r); cases e; rfl
  | byt b => obtain ⟨t, e⟩ := (show ∃ t, u = Value.bytes b t from r); cases e; rfl
  | flt b => obtain ⟨t, e⟩ := (show ∃ t, u = Value.float b t from r); cases e; rfl
  | ref a => cases (show u = Value.ref a from r); rfl
  | ty n => cases (show u = Value.type n from r); rfl

section
variable {P : Program} {w : World} {H H' : Hp} {h h' : Heap} {a C dx : Addr} {fs fs' : List (Str × V)}
theorem ins_get (hok : HOk P w H h) (e : H a = some (.ins C dx fs)) : ∃ mA, ObjM h a dx C mA ∧ (∀ f, RelO (fs.lookup f) (mA f)) ∧ PySem.Within mA (fs.map (·.1)) ∧ fs.length ≤ 1000 ∧ H dx = some (.own a) := by
  obtain ⟨d, z, ne, ob, mA, n, r, q⟩ := (show ObjOk P w H h a (.ins C dx fs) from hok a _ e)
  exact ⟨mA, ⟨ob, n, ne⟩, r, q, z, d⟩
end

structure Cls (K : PySem.W.Frag) (C : Addr) : Prop where
  pg : PySem.W.plainGet K C Str.empty = true
  hd : PySem.W.hasDictIn K C = true
  po : PySem.W.plainOver K C = true
  sa : PySem.W.findIn K (.ref C) "__setattr__" = some (some (.builtin "object.__setattr__"))
theorem Cls.get {K : PySem.W.Frag} {C : Addr} (c : Cls K C) (f : Str) : PySem.W.plainGet K C f = true := c.pg
def NoAttr (K : PySem.W.Frag) (C : Addr) (f : Str) : Prop := PySem.W.findIn K (.ref C) f = some none
theorem NoAttr.taker {K : PySem.W.Frag} {C : Addr} {f : Str} (n : NoAttr K C f) : PySem.W.takerIn K C f = some none := by
  unfold PySem.W.takerIn
  rw [show PySem.W.findIn K (.ref C) f = some none from n]
  rfl
structure Meth (K : PySem.W.Frag) (C : Addr) (m : Str) (f : Addr) : Prop where
  at_ : PySem.W.findIn K (.ref C) m = some (some (.ref f))
  fn : PySem.W.isFn K (.ref f) = true
  kp : PySem.W.keepIn K (.ref f) = true

section
variable {X : Cx} {pins : List (Addr × Obj)} {σ : St} {H : Hp} {s : Shared} {a C dx : Addr} {fs : List (Str × V)} {f : Str} {v : V} {A : Around} {E : Value → Shared → Prop}

theorem getattr_ok {b : Bool} {Q : Value → Shared → Prop} (I : Inv X pins σ H s) (e : H a = some (.ins C dx fs)) (c : Cls X.K C) (n : NoAttr X.K C f) (l : fs.lookup f = some v)
    (h : ∀ u s', Inv X pins σ H s' → RelV v u → Q u s') : wpAny (model X.prog X.w) A (getAttr (.ref a) f b) Q E s := by
  obtain ⟨mA, O, r, _, _, _⟩ := ins_get I.hok e
  obtain ⟨u, hu, ru⟩ := RelO.some_of (v := v) (o := mA f) (by rw [← l]; exact r f)
  exact get_map I.kIn O (c.get f) c.hd n hu (handed_of ru) (h u _ (I.tok _) ru)

theorem getmeth_ok {m : Str} {g : Addr} {pl : Sem Bool} {Q : Value × List Value → Shared → Prop} (I : Inv X pins σ H s) (e : H a = some (.ins C dx fs)) (c : Cls X.K C) (k : Meth X.K C m g) (l : fs.lookup m = none)
    (h : Q (.ref g, [.ref a]) s) : wpAny (model X.prog X.w) A (getMethod (.ref a) m pl) Q E s := by
  obtain ⟨mA, O, r, _, _, _⟩ := ins_get I.hok e
  have hn : mA m = none := RelO.none_of (by rw [← l]; exact r m)
  exact get_meth I.kIn O (c.get m) k.at_ k.fn hn h

theorem setattr_ok {y : V} {u : Value} {Q : Unit → Shared → Prop} (I : Inv X pins σ H s) (e : H a = some (.ins C dx fs)) (c : Cls X.K C) (n : NoAttr X.K C f) (hl : fs.length < 1000) (ry : RelV y u)
    (h : ∀ s', Inv X pins σ (upd H a (.ins C dx (putF f y fs))) s' → Q () s') : wpAny (model X.prog X.w) A (setAttr (.ref a) f u) Q E s := by
  obtain ⟨mA, O, r, wi, _, ho⟩ := ins_get I.hok e
  have hz : (fs.map (·.1)).length ≤ sizeLine := by rw [List.length_map, sizeLine_eq]; omega
  refine set_map I.kIn O c.sa c.po n.taker c.hd wi hz fun h' O' sb => h _ ?_
  have hd : ∃ o, h'.get? dx = some o := let ⟨o, _, _, e', _⟩ := O'.ns; ⟨o, e'⟩
  refine I.write (x := a) (e := dx) (by rw [e]; exact True.intro) (.inr ho) (fun b q hb z => (sb.2 b hb).trans z) hd ?_
  refine ⟨by rw [upd_ne O.ne]; exact ho, ?_, O.ne, O'.obj, _, O'.ns, fun g => ?_, fun g hg => ?_⟩
  · have := length_putF f y fs; omega
  · show RelO ((putF f y fs).lookup g) (if g = f then some u else mA g)
    rw [lookup_putF]
    by_cases q : g = f
    · rw [if_pos q, if_pos q]; exact ry
    · rw [if_neg q, if_neg q]; exact r g
  · by_cases q : g = f
    · rw [q]; exact (keys_putF f y fs).1
    · refine (keys_putF f y fs).2 g (wi g fun z => hg ?_)
      show (if g = f then some u else mA g) = none
      rw [if_neg q]; exact z

theorem Inv.made (I : Inv X pins σ H s) : Inv X pins σ (upd (upd H s.heap.objs.size (.own (s.heap.objs.size + 1))) (s.heap.objs.size + 1) (.ins C s.heap.objs.size []))
    { s with heap := (s.heap.push PySem.W.emptyDict).push (PySem.W.instObj C s.heap.objs.size) } := by
  have e1 : (s.heap.push PySem.W.emptyDict).get? s.heap.objs.size = some PySem.W.emptyDict := Heap.get?_push_size s.heap rfl
  have e2 : ((s.heap.push PySem.W.emptyDict).push (PySem.W.instObj C s.heap.objs.size)).get? (s.heap.objs.size + 1) = some (PySem.W.instObj C s.heap.objs.size) := by
    have := Heap.get?_push_size (s.heap.push PySem.W.emptyDict) (o := PySem.W.instObj C s.heap.objs.size) rfl
    rwa [Heap.size_push] at this
  have e3 : (s.heap.push PySem.W.emptyDict).Ns s.heap.objs.size (fun _ => none) := ⟨PySem.W.emptyDict, #[], _, e1, rfl, (fun e he => absurd he (by simp)), fun _ => rfl⟩
  have I1 := I.laid (a := s.heap.objs.size) (o := .own (s.heap.objs.size + 1)) (h' := s.heap.push PySem.W.emptyDict) (t' := s.toks) (fun b u q => Heap.get?_push_of_some _ q) (Nat.le_refl _) ⟨_, e1⟩
  refine I1.laid (a := s.heap.objs.size + 1) (o := .ins C s.heap.objs.size []) (t' := s.toks) (fun b u q => Heap.get?_push_of_some _ q) (Nat.le_of_eq (Heap.size_push _ _)) ?_
  have ne : s.heap.objs.size ≠ s.heap.objs.size + 1 := Nat.ne_of_lt (Nat.lt_succ_self _)
  refine ⟨by rw [upd_ne ne, upd_same], Nat.zero_le _, ne, e2, fun _ => none, (Heap.Ns1.of_empty e3).at fun o q => Heap.get?_push_of_some _ q, fun _ => True.intro, fun y hy => absurd rfl hy⟩

theorem attr_of {prog : Program} {w : World} {env : Env} {e : Expr} {f : Str} {pos : Pos} {s : Shared} {Q : Value → Shared → Prop} (hb : attributeBase e f env (eval e env) = eval e env)
    (h : wpAny (model prog w) A (eval e env) (fun o s₁ => wpAny (model prog w) A (getAttr o f true) Q E s₁) E s) : wpAny (model prog w) A (eval (.Attribute e f pos) env) Q E s :=
  Attribute_any_ h (by rw [arm_eval_Attribute, hb])
end

def tFld (K : PySem.W.Frag) (ta : TE) (f : Str) : TE := fun σ H Q => ta σ H fun x H1 => ∃ a C dx fs v, x = .ref a ∧ H1 a = some (.ins C dx fs) ∧ Cls K C ∧ NoAttr K C f ∧ fs.lookup f = some v ∧ Q v H1
def sFld (K : PySem.W.Frag) (ta tv : TE) (f : Str) : TS := fun D σ H => tv σ H fun y H1 => ta σ H1 fun x H2 => ∃ a C dx fs, x = .ref a ∧ H2 a = some (.ins C dx fs) ∧ Cls K C ∧ NoAttr K C f ∧ fs.length < 1000 ∧
  D.nx σ (upd H2 a (.ins C dx (putF f y fs)))
section
variable {X : Cx} {o e value : Expr} {f : Str} {pos pos' tpos : Pos} {ta tv : TE}
theorem pe_fld (he : PE X e ta) (hb : attributeBase e f X.env (eval e X.env) = eval e X.env) : PE X (.Attribute e f pos) (tFld X.K ta f) := by
  intro pins s σ H Q I h
  refine attr_of hb (thn (he pins s σ H _ I h) fun u s1 ⟨x, H1, I1, rx, a, C, dx, fs, v, ex, ea, c, n, l, q⟩ => ?_)
  subst ex
  obtain rfl : u = Value.ref a := rx
  exact getattr_ok I1 ea c n l fun u' s2 I2 ru => ⟨v, H1, I2, ru, q⟩
theorem ps_fld (ha : PE X o ta) (hv : PE X value tv) (hs : swapsWith value (some (.Attribute o f pos')) pos.line X.env = pure false) : PS X (.Assign [.Attribute o f pos'] value pos) (sFld X.K ta tv f) := by
  intro pins s σ H D I h
  refine plainObj_wpAny_Assign_Attribute (thn (hv pins s σ H _ I h) fun u s1 ⟨y, H1, I1, ry, q⟩ => thn (ha pins s1 σ H1 _ I1 q) fun ov s2 ⟨x, H2, I2, rx, a, C, dx, fs, ex, ea, c, n, l, q2⟩ => ?_) hs
  subst ex
  obtain rfl : ov = Value.ref a := rx
  exact setattr_ok I2 ea c n l ry fun s3 I3 => ⟨σ, _, I3, q2⟩
end

section
variable {X : Cx} {pins : List (Addr × Obj)} {σ : St} {H : Hp} {s : Shared} {A : Around} {E : Value → Shared → Prop} {Q : Value → Shared → Prop} {c : Value} {b : Bool}
inductive TyOf (K : PySem.W.Frag) (H : Hp) : V → Value → Prop where
  | non : TyOf K H .non (.type "NoneType")
  | bl (x : Bool) : TyOf K H (.bl x) (.type "bool")
  | int (i : Int) : TyOf K H (.int i) (.type "int")
  | str (x : Str) : TyOf K H (.str x) (.type "str")
  | flt (x : UInt64) : TyOf K H (.flt x) (.type "float")
  | lst {a : Addr} {xs : List V} (e : H a = some (.lst xs)) : TyOf K H (.ref a) (.type "list")
  | frz {a : Addr} {o : Obj} {xs : List V} (e : H a = some (.frz o (.lst xs))) : TyOf K H (.ref a) (.type "list")
  | tup {a : Addr} {xs : List V} (e : H a = some (.tup xs)) : TyOf K H (.ref a) (.type "tuple")
  | dK {a : Addr} {kvs : List (Key × V)} (e : H a = some (.dK kvs)) : TyOf K H (.ref a) (.type "dict")
  | dT {a : Addr} {kvs : List (List Key × V)} (e : H a = some (.dT kvs)) : TyOf K H (.ref a) (.type "dict")
  | ins {a C dx : Addr} {fs : List (Str × V)} (e : H a = some (.ins C dx fs)) (cl : Cls K C) (ha : PySem.W.findIn K (.ref C) "__class__" = some (some (.builtin "object.__class__")))
      (hn : PySem.W.specialIn K (.builtin "object.__class__") "__get__" = some (some (.builtin "getset_descriptor.__get__"))) (htk : PySem.W.takesIn K (.builtin "object.__class__") = some true)
      (hm : PySem.W.mroIn K C (.type "object") = some true) : TyOf K H (.ref a) (.ref C)
theorem isinst_ok {x : V} {u t : Value} (I : Inv X pins σ H s) (rx : RelV x u) (ty : TyOf X.K H x t) (e : PySem.W.kitOne X.K t c = some b) (h : ∀ tk, Q (.bool b) { s with toks := tk }) :
    wpAny (model X.prog X.w) A (call (.builtin "isinstance") [u, c]) Q E s := by
  cases ty with
  | non => cases (show u = Value.none from rx); exact PySem.W.kia_one PySem.W.kitx_none I.kIn True.intro e (fun z => nomatch z) h
  | bl y => cases (show u = Value.bool y from rx); exact PySem.W.kia_one PySem.W.kitx_bool I.kIn True.intro e (fun z => nomatch z) h
  | int i => obtain ⟨t, q⟩ := (show ∃ t, u = Value.int i t from rx); cases q; exact PySem.W.kia_one PySem.W.kitx_int I.kIn True.intro e (fun z => nomatch z) h
  | str y => obtain ⟨t, q⟩ := (show ∃ t, u = Value.str y t from rx); cases q; exact PySem.W.kia_one PySem.W.kitx_str I.kIn True.intro e (fun z => nomatch z) h
  | flt y => obtain ⟨t, q⟩ := (show ∃ t, u = Value.float y t from rx); cases q; exact PySem.W.kia_one PySem.W.kitx_float I.kIn True.intro e (fun z => nomatch z) h
  | @lst a xs ea =>
    cases (show u = Value.ref a from rx)
    obtain ⟨_, _, n, _, h1⟩ := (show ObjOk X.prog X.w H s.heap a (.lst xs) from I.hok a _ ea)
    exact PySem.W.kia_one PySem.W.kitx_list I.kIn ⟨_, h1, rfl⟩ e (fun z => nomatch z) h
  | @frz a ob xs ea =>
    cases (show u = Value.ref a from rx)
    obtain ⟨_, _, _, n, _, h1⟩ := (show ObjOk X.prog X.w H s.heap a (.frz ob (.lst xs)) from I.hok a _ ea)
    exact PySem.W.kia_one PySem.W.kitx_list I.kIn ⟨_, h1, rfl⟩ e (fun z => nomatch z) h
  | @tup a xs ea =>
    cases (show u = Value.ref a from rx)
    obtain ⟨_, _, _, p⟩ := (show ObjOk X.prog X.w H s.heap a (.tup xs) from I.hok a _ ea)
    obtain ⟨o, h1, h2, _⟩ := p
    exact PySem.W.kia_one PySem.W.kitx_tuple I.kIn ⟨o, h1, h2⟩ e (fun z => nomatch z) h
  | @dK a kvs ea =>
    cases (show u = Value.ref a from rx)
    obtain ⟨_, _, vs, _, p⟩ := (show ObjOk X.prog X.w H s.heap a (.dK kvs) from I.hok a _ ea)
    obtain ⟨o, es, ep, h1, h2, _⟩ := p
    exact PySem.W.kia_one PySem.W.kitx_dict I.kIn ⟨o, h1, h2.1⟩ e (fun z => nomatch z) h
  | @dT a kvs ea =>
    cases (show u = Value.ref a from rx)
    obtain ⟨_, _, xs, _, o, es, ep, h1, h2, _⟩ := (show ObjOk X.prog X.w H s.heap a (.dT kvs) from I.hok a _ ea)
    exact PySem.W.kia_one PySem.W.kitx_dict I.kIn ⟨o, h1, h2.1⟩ e (fun z => nomatch z) h
  | @ins a C dx fs ea cl ha hn htk hm =>
    cases (show u = Value.ref a from rx)
    obtain ⟨mA, O, _⟩ := ins_get I.hok ea
    obtain ⟨od, J, _⟩ := O.look
    exact PySem.W.kia_one (PySem.W.kitx_own (cl.get _) cl.hd ha hn htk hm) I.kIn J e (fun z => nomatch z) h
end
end L2

namespace L2
open PySem PySem.Spec PyProof.Rows

structure Room (k : Nat) (A : Around) : Prop where
  hd : A.handled = none
  dp : A.depth + 3 * k + 5 < recursionLimit
  un : A.units + 16 * k + 200 < cLine
theorem Room.mono {j k : Nat} {A : Around} (r : Room k A) (h : j ≤ k) : Room j A := ⟨r.hd, by have := r.dp; omega, by have := r.un; omega⟩
theorem Room.deeper {k : Nat} {A : Around} (r : Room (k + 1) A) (env : Env) : Room k (A.deeper env) :=
  ⟨r.hd, by have := r.dp; show A.depth + 1 + 3 * k + 5 < _; omega, by have := r.un; show A.units + 3 + 16 * k + 200 < _; omega⟩
theorem Room.in1 {k : Nat} {A : Around} (r : Room (k + 1) A) : Room k A.in1 :=
  ⟨r.hd, by have := r.dp; show A.depth + 3 * k + 5 < _; omega, by have := r.un; show A.units + 1 + 16 * k + 200 < _; omega⟩
theorem make_depth {A : Around} {C : Addr} {us : List Value} {kw : List (Str × Value)} : (A.under (.builtin "type.__call__" ⟨.ref C :: us, kw⟩)).depth = A.depth + 1 := by
  first | rfl | simp [Around.under, Code.weight, Code.isCreation, Code.isGuard, Code.isCaller, Code.frames, Code.isFrame, guardIds]
theorem make_units {A : Around} {C : Addr} {us : List Value} {kw : List (Str × Value)} : (A.under (.builtin "type.__call__" ⟨.ref C :: us, kw⟩)).units = A.units + 1 := by
  first | rfl | simp [Around.under, Code.cUnits, Code.frames, Code.isFrame]
theorem Room.make {k : Nat} {A : Around} (r : Room (k + 1) A) (C : Addr) (us : List Value) (kw : List (Str × Value)) : Room k (A.under (.builtin "type.__call__" ⟨.ref C :: us, kw⟩)) :=
  ⟨r.hd, by have := r.dp; rw [make_depth]; omega, by have := r.un; rw [make_units]; omega⟩
theorem Room.depth {k : Nat} {A : Around} (r : Room k A) : A.depth < recursionLimit := by have := r.dp; omega
theorem Room.units {k : Nat} {A : Around} (r : Room k A) : A.units + 64 < cLine := by have := r.un; omega
theorem Room.units0 {k : Nat} {A : Around} (r : Room k A) : A.units < cLine := by have := r.un; omega

def tNil : TA := fun _ H Q => Q [] H
def tCons (ta : TE) (tr : TA) : TA := fun σ H Q => ta σ H fun x H1 => tr σ H1 fun xs H2 => Q (x :: xs) H2
section
variable {X : Cx} {e : Expr} {es : List Expr} {te : TE} {t : TA} {pos : Pos}
theorem pa_nil : PA X [] tNil := fun _ _ _ _ H Q I h => Calls.spliced_nil ⟨[], H, I, .nil, h⟩
theorem pa_cons (ha : PE X e te) (hr : PA X es t) (hs : starEach (e :: es) X.env = (false, eval e X.env) :: starEach es X.env := by rfl) : PA X (e :: es) (tCons te t) := by
  intro pos pins s σ H Q I h
  rw [hs]
  show wpAny _ _ (spliced ((false, eval e X.env) :: backTo pos (starEach es X.env))) _ _ s
  refine Calls.spliced_cons (thn (ha pins s σ H _ I h) fun u s1 ⟨x, H1, I1, r1, q1⟩ => ?_)
  exact thn (hr pos pins s1 σ H1 _ I1 q1) fun us s2 ⟨xs, H2, I2, r2, q2⟩ => ⟨x :: xs, H2, I2, .cons r1 r2, q2⟩

end

abbrev Sp := List V → Hp → VK → XK → Prop
abbrev CXT := List Env → Hp → Shared → XK → Value → Shared → Prop

structure Env0 (P : Program) (w : World) (K : PySem.W.Frag) (mg : Str → Option Value) (base : Heap) (A : Around) (outer : List Env) (s : Shared) (H : Hp) : Prop where
  frames : A.frames = some outer
  mod : Mod K mg base
  bs : ∀ b o, base.get? b = some o → s.heap.get? b = some o ∧ H b = none
  bsz : base.objs.size ≤ s.heap.objs.size
  funs : s.heap.FunFrames base outer
  frf : ∀ b ∈ frs outer, H b = none
  hok : HOk P w H s.heap
  bare : AllBare s.gens
def CE (outer : List Env) (P : Program) (w : World) (H : Hp) (s : Shared) (Q : VK) (u : Value) (s' : Shared) : Prop :=
  ∃ v H', s'.os = s.os ∧ AllBare s'.gens ∧ Un (frs outer) [] H H' s.heap s'.heap ∧ HOk P w H' s'.heap ∧ RelV v u ∧ Q v H'
def CR (CX : CXT) (outer : List Env) (P : Program) (w : World) (H : Hp) (s : Shared) (Q : VK) (E : XK) (r : Result) (s' : Shared) : Prop :=
  match r with
  | .ok (.ret u) => CE outer P w H s Q u s'
  | .ok _ => False
  | .error e => CX outer H s E e s'
structure FnOk (P : Program) (w : World) (K : PySem.W.Frag) (mg : Str → Option Value) (base : Heap) (CX : CXT) (k : Nat) (f : Addr) (fd : FuncData) (ps : List Str) (sp : Sp) : Prop where
  len : ∀ vs H Q E, sp vs H Q E → vs.length = ps.length
  run : ∀ (A : Around) (outer : List Env) (s : Shared) (H : Hp) (args : Args) (us : List Value) (vs : List V) (Q : VK) (E : XK), Room k A → Env0 P w K mg base A outer s H → BindsTo s fd args (ps.zip us) → Vals vs us → sp vs H Q E →
    codeAny (model P w) A (.call (.ref f) args) (CR CX outer P w H s Q E) s
theorem FnOk.mono {P : Program} {w : World} {K : PySem.W.Frag} {mg : Str → Option Value} {base : Heap} {CX : CXT} {j k : Nat} {f : Addr} {fd : FuncData} {ps : List Str} {sp : Sp} (F : FnOk P w K mg base CX j f fd ps sp) (h : j ≤ k) :
    FnOk P w K mg base CX k f fd ps sp := ⟨F.len, fun A outer s H args us vs Q E hr => F.run A outer s H args us vs Q E (hr.mono h)⟩
theorem FnOk.imp {P : Program} {w : World} {K : PySem.W.Frag} {mg : Str → Option Value} {base : Heap} {CX : CXT} {k : Nat} {f : Addr} {fd : FuncData} {ps : List Str} {sp sp' : Sp} (F : FnOk P w K mg base CX k f fd ps sp)
    (h : ∀ vs H Q E, sp' vs H Q E → sp vs H Q E) : FnOk P w K mg base CX k f fd ps sp' :=
  ⟨fun vs H Q E q => F.len vs H Q E (h _ _ _ _ q), fun A outer s H args us vs Q E hr he hb hv hs => F.run A outer s H args us vs Q E hr he hb hv (h _ _ _ _ hs)⟩

theorem Env0.make {P : Program} {w : World} {K : PySem.W.Frag} {mg : Str → Option Value} {base : Heap} {A : Around} {outer : List Env} {s : Shared} {H : Hp} (e : Env0 P w K mg base A outer s H) (C : Addr) (us : List Value) (kw : List (Str × Value)) :
    Env0 P w K mg base (A.under (.builtin "type.__call__" ⟨.ref C :: us, kw⟩)) outer s H := ⟨by first | exact e.frames | (simpa [Around.under, Code.envs, Code.isFrame, pushEnvs] using e.frames), e.mod, e.bs, e.bsz, e.funs, e.frf, e.hok, e.bare⟩
theorem Env0.in1 {P : Program} {w : World} {K : PySem.W.Frag} {mg : Str → Option Value} {base : Heap} {A : Around} {outer : List Env} {s : Shared} {H : Hp} (e : Env0 P w K mg base A outer s H) :
    Env0 P w K mg base A.in1 outer s H := ⟨e.frames, e.mod, e.bs, e.bsz, e.funs, e.frf, e.hok, e.bare⟩

section
variable {X : Cx} {pins : List (Addr × Obj)} {σ : St} {H : Hp} {s s' : Shared}
theorem Inv.env0 (I : Inv X pins σ H s) : Env0 X.prog X.w X.K X.mg X.base X.A X.stack s H :=
  ⟨I.ok.frames, I.ok.mod, I.bs, Nat.le_trans I.ok.bsz I.sz, I.stack, I.stkFree, I.hok, I.bare⟩
theorem Inv.after {Q : VK} {u : Value} (I : Inv X pins σ H s) (h : CE X.stack X.prog X.w H s Q u s') : EP X pins σ Q u s' := by
  obtain ⟨v, H', os, bare, un, hok, r, q⟩ := h
  obtain ⟨hh, g, d, t, os'⟩ := s'
  obtain rfl : os' = s.os := os
  exact ⟨v, H', I.call (h' := hh) (g' := g) (d' := d) (t' := t) (ch := []) un hok bare (fun b z => absurd z (by simp)), r, q⟩
end

def tCall (sp : Sp) (dvs : List V) (E : St → XK) (t : TA) : TE := fun σ H Q => t σ H fun vs H1 => sp (vs ++ dvs) H1 Q (E σ)
def tMeth (C : Addr) (m : Str) (sp : Sp) (dvs : List V) (E : St → XK) (ta : TE) (t : TA) : TE := fun σ H Q => ta σ H fun x H1 => ∃ a dx fs, x = .ref a ∧ H1 a = some (.ins C dx fs) ∧ fs.lookup m = none ∧
  t σ H1 fun vs H2 => sp (x :: (vs ++ dvs)) H2 Q (E σ)
def tMake (C : Addr) (sp : Sp) (dvs : List V) (E : St → XK) (t : TA) : TE := fun σ H Q => t σ H fun vs H1 => ∀ x dx, H1 x = none → H1 dx = none → dx ≠ x →
  sp (.ref x :: (vs ++ dvs)) (upd (upd H1 dx (.own x)) x (.ins C dx [])) (fun v H2 => v = .non ∧ Q (.ref x) H2) (E σ)

def Binds (K : PySem.W.Frag) (fd : FuncData) (ps : List Str) (ds : List Value) : Prop :=
  ∀ (s : Shared) (us : List Value), K.In s.heap → (us ++ ds).length = ps.length → BindsTo s fd ⟨us, []⟩ (ps.zip (us ++ ds))
theorem Binds.all {K : PySem.W.Frag} {fd : FuncData} {ps : List Str} (h : ∀ us : List Value, us.length = ps.length → bindArgs fd ⟨us, []⟩ = pure (ps.zip us)) : Binds K fd ps [] := fun s us _ hl => by
  rw [List.append_nil] at hl ⊢
  exact .of_eq (h us hl)

def Passes (CX : CXT) (X : Cx) (E : St → XK) : Prop := ∀ (pins : List (Addr × Obj)) (σ : St) (H : Hp) (s : Shared) (e : Value) (s' : Shared), Inv X pins σ H s → CX X.stack H s (E σ) e s' → X.xe e s'

section
variable {X : Cx} {CX : CXT} {k : Nat} {f C : Addr} {fd : FuncData} {ps : List Str} {sp : Sp} {dvs : List V} {ds : List Value} {E : St → XK} {x m : Str} {p pos apos : Pos} {e o : Expr} {es : List Expr} {ta : TE} {t : TA}

theorem run_fn {pins : List (Addr × Obj)} {σ : St} {H : Hp} {s : Shared} {Q : VK} {us : List Value} {vs : List V} (F : FnOk X.prog X.w X.K X.mg X.base CX k f fd ps sp) (hr : Room k X.A) (hb : Binds X.K fd ps ds) (hd : Vals dvs ds) (hx : Passes CX X E)
    (I : Inv X pins σ H s) (r : Vals vs us) (h : sp (vs ++ dvs) H Q (E σ)) : wpAny (model X.prog X.w) X.A (call (.ref f) us) (EP X pins σ Q) X.xe s := by
  have r2 : Vals (vs ++ dvs) (us ++ ds) := r.append hd
  have hl : (us ++ ds).length = ps.length := by rw [← r2.length]; exact F.len _ _ _ _ h
  refine wpAny_call (codeAny_mono (F.run X.A X.stack s H ⟨us, []⟩ (us ++ ds) (vs ++ dvs) Q (E σ) hr I.env0 (hb s us I.kIn hl) r2 h) fun r s' hq => ?_)
  cases r with
  | error e => exact hx pins σ H s e s' I hq
  | ok fl =>
    cases fl with
    | ret u => exact I.after hq
    | next => exact False.elim hq
    | brk => exact False.elim hq
    | cont => exact False.elim hq

theorem pe_call (F : FnOk X.prog X.w X.K X.mg X.base CX k f fd ps sp) (hr : Room k X.A) (hg : Gl X x) (hm : X.mg x = some (.ref f)) (hk : PySem.W.keepIn X.K (.ref f) = true) (hb : Binds X.K fd ps ds) (hd : Vals dvs ds) (hx : Passes CX X E)
    (ha : PA X (e :: es) t) (hdb : (x == ("__debug__" : Str)) = false := by decide) (he : starEach (e :: es) X.env = (false, eval e X.env) :: starEach es X.env := by rfl) (hpl : (backTo pos (starEach es X.env)).any (·.1) = false := by rfl) :
    PE X (.Call (.Name x p) (e :: es) [] pos) (tCall sp dvs E t) := by
  intro pins s σ H Q I h
  refine wpAny_Call_Name_kw (ld_glob I hg hm ?_ hdb)
  refine PySem.W.callWith_K (h₀ := X.base) I.ok.mod.kin hk (thn (ha pos pins s σ H _ I h) fun us s1 ⟨vs, H1, I1, r, q⟩ => ⟨I1.kIn, ?_⟩) he hpl
  exact run_fn F hr hb hd hx I1 r q
theorem pe_meth {pl : Sem Bool} (he : PE X o ta) (c : Cls X.K C) (hm : Meth X.K C m f) (F : FnOk X.prog X.w X.K X.mg X.base CX k f fd ps sp) (hr : Room k X.A) (hb : Binds X.K fd ps ds) (hd : Vals dvs ds) (hx : Passes CX X E) (ha : PA X (e :: es) t)
    (hst : starEach (e :: es) X.env = (false, eval e X.env) :: starEach es X.env := by rfl) (hpl : (backTo pos (starEach es X.env)).any (·.1) = false := by rfl)
    (ht : eval (.Call (.Attribute o m apos) (e :: es) [] pos) X.env = (do
      let ov ← eval o X.env
      standAt apos.atName
      let (f, first) ← holding [ov] (getMethod ov m pl)
      callWith pos f first (backTo pos (starEach (e :: es) X.env)) (backToKw pos (keywordEach [] X.env))) := by rfl) :
    PE X (.Call (.Attribute o m apos) (e :: es) [] pos) (tMeth C m sp dvs E ta t) := by
  intro pins s σ H Q I h
  refine PySem.W.methodCall_KW (pl := pl) (thn (he pins s σ H _ I h) fun u s1 ⟨x, H1, I1, rx, a, dx, fs, ex, ea, l, q⟩ => ?_) ht
  subst ex
  obtain rfl : u = Value.ref a := rx
  refine getmeth_ok I1 ea c hm l ?_
  refine PySem.W.callWith_K (first := [.ref a]) (h₀ := X.base) I.ok.mod.kin hm.kp (thn (ha pos pins s1 σ H1 _ I1 q) fun us s2 ⟨vs, H2, I2, r, q2⟩ => ⟨I2.kIn, ?_⟩) hst hpl
  exact run_fn (us := .ref a :: us) (vs := .ref a :: vs) F hr hb hd hx I2 (.cons rfl r) q2
theorem pe_meth0 {pl : Sem Bool} (he : PE X o ta) (c : Cls X.K C) (hm : Meth X.K C m f) (F : FnOk X.prog X.w X.K X.mg X.base CX k f fd ps sp) (hr : Room k X.A) (hb : Binds X.K fd ps ds) (hd : Vals dvs ds) (hx : Passes CX X E)
    (ht : eval (.Call (.Attribute o m apos) [] [] pos) X.env = (do
      let ov ← eval o X.env
      standAt apos.atName
      let (f, first) ← holding [ov] (getMethod ov m pl)
      callWith pos f first (backTo pos (starEach [] X.env)) (backToKw pos (keywordEach [] X.env))) := by rfl) :
    PE X (.Call (.Attribute o m apos) [] [] pos) (tMeth C m sp dvs E ta tNil) := by
  intro pins s σ H Q I h
  refine PySem.W.methodCall_KW (pl := pl) (thn (he pins s σ H _ I h) fun u s1 ⟨x, H1, I1, rx, a, dx, fs, ex, ea, l, q⟩ => ?_) ht
  subst ex
  obtain rfl : u = Value.ref a := rx
  refine getmeth_ok I1 ea c hm l ?_
  exact PySem.W.callWith_K0 (first := [.ref a]) I1.kIn hm.kp (run_fn (us := [.ref a]) (vs := [.ref a]) F hr hb hd hx I1 (.cons rfl .nil) q)

structure Mk (K : PySem.W.Frag) (C f : Addr) : Prop where
  makes : PySem.W.makesIn K C = true
  init : PySem.W.findIn K (.ref C) "__init__" = some (some (.ref f))
  fn : PySem.W.isFn K (.ref f) = true
  kp : PySem.W.keepIn K (.ref C) = true

theorem run_make {pins : List (Addr × Obj)} {σ : St} {H : Hp} {s : Shared} {Q : VK} {us : List Value} {vs : List V} (M : Mk X.K C f) (F : FnOk X.prog X.w X.K X.mg X.base CX k f fd ps sp) (hr : Room (k + 1) X.A) (hb : Binds X.K fd ps ds) (hd : Vals dvs ds)
    (hx : Passes CX X E) (I : Inv X pins σ H s) (r : Vals vs us)
    (h : ∀ x dx, H x = none → H dx = none → dx ≠ x → sp (.ref x :: (vs ++ dvs)) (upd (upd H dx (.own x)) x (.ins C dx [])) (fun v H2 => v = .non ∧ Q (.ref x) H2) (E σ)) :
    wpAny (model X.prog X.w) X.A (call (.ref C) us) (EP X pins σ Q) X.xe s := by
  have hq := h (s.heap.objs.size + 1) s.heap.objs.size (I.hok.fresh (Nat.le_succ _)) (I.hok.fresh (Nat.le_refl _)) (Nat.ne_of_lt (Nat.lt_succ_self _))
  have I2 := Inv.made (C := C) I
  have r2 : Vals (V.ref (s.heap.objs.size + 1) :: (vs ++ dvs)) (Value.ref (s.heap.objs.size + 1) :: (us ++ ds)) := .cons rfl (r.append hd)
  have hl : (Value.ref (s.heap.objs.size + 1) :: us ++ ds).length = ps.length := by
    have e := r2.length
    rw [F.len _ _ _ _ hq] at e
    exact e.symm
  refine wpAny_call (make_map (f := f) I.kIn M.makes M.init (beq_iff_eq.mp M.fn) (codeAny_mono (F.run _ X.stack _ _ ⟨Value.ref (s.heap.objs.size + 1) :: us, []⟩ (Value.ref (s.heap.objs.size + 1) :: (us ++ ds)) _ _ (E σ) (hr.make C us [])
    (I2.env0.make C us []) (hb _ (Value.ref (s.heap.objs.size + 1) :: us) I2.kIn hl) r2 hq) fun r s' hq' => ?_))
  cases r with
  | error e => exact hx pins σ _ _ e s' I2 hq'
  | ok fl =>
    cases fl with
    | ret u =>
      obtain ⟨v, H', I3, rv, ev, q3⟩ := I2.after hq'
      subst ev
      exact ⟨rv, ⟨V.ref (s.heap.objs.size + 1), H', I3, rfl, q3⟩⟩
    | next => exact False.elim hq'
    | brk => exact False.elim hq'
    | cont => exact False.elim hq'
theorem pe_make (M : Mk X.K C f) (F : FnOk X.prog X.w X.K X.mg X.base CX k f fd ps sp) (hr : Room (k + 1) X.A) (hg : Gl X x) (hm : X.mg x = some (.ref C)) (hb : Binds X.K fd ps ds) (hd : Vals dvs ds) (hx : Passes CX X E)
    (ha : PA X (e :: es) t) (hdb : (x == ("__debug__" : Str)) = false := by decide) (he : starEach (e :: es) X.env = (false, eval e X.env) :: starEach es X.env := by rfl) (hpl : (backTo pos (starEach es X.env)).any (·.1) = false := by rfl) :
    PE X (.Call (.Name x p) (e :: es) [] pos) (tMake C sp dvs E t) := by
  intro pins s σ H Q I h
  refine wpAny_Call_Name_kw (ld_glob I hg hm ?_ hdb)
  refine PySem.W.callWith_K (h₀ := X.base) I.ok.mod.kin M.kp (thn (ha pos pins s σ H _ I h) fun us s1 ⟨vs, H1, I1, r, q⟩ => ⟨I1.kIn, ?_⟩) he hpl
  exact run_make M F hr hb hd hx I1 r q
end

section
variable {X : Cx} {CX : CXT} {k : Nat} {f C : Addr} {fd : FuncData} {ps ks : List Str} {sp : Sp} {E : St → XK} {x m : Str} {p pos apos kpos : Pos} {e o : Expr} {es : List Expr} {kws : List Keyword} {te ta : TE} {t tk : TA} {nm : Option Str}
variable {g : List Value → List Value → List Value} {gV : List V → List V → List V}
end

structure FnScope (N P : List Str) (sc : Scope) : Prop where
  kind : sc.kind = .function
  co : sc.isCoroutine = false
  gen : sc.isGenerator = false
  nd : N.Nodup
  pre : N.take P.length = P
  par : ∀ x ∈ P, sc.names.lookup x = some .local ∨ sc.names.lookup x = some .cell
  nofree : ∀ y ∈ sc.names, y.2 ≠ .free

theorem bindL_out {kindOf : Str → Option NameKind} {x : Str} : ∀ {binds : List (Str × Value)} {m : Str → Option Value}, (∀ v, (x, v) ∉ binds) → bindL kindOf binds m x = m x
  | [], _, _ => rfl
  | (n, v) :: r, m, h => by
    unfold bindL
    rw [bindL_out fun w hw => h w (List.mem_cons_of_mem _ hw)]
    split
    · have : x ≠ n := by rintro rfl; exact h v List.mem_cons_self
      simp [this]
    · rfl
theorem bindC_out {kindOf : Str → Option NameKind} {x : Str} : ∀ {binds : List (Str × Value)} {m : Str → Option Value}, (∀ v, (x, v) ∉ binds) → bindC kindOf binds m x = m x
  | [], _, _ => rfl
  | (n, v) :: r, m, h => by
    unfold bindC
    rw [bindC_out fun w hw => h w (List.mem_cons_of_mem _ hw)]
    split
    · rfl
    · have : x ≠ n := by rintro rfl; exact h v List.mem_cons_self
      simp [this]
theorem bindL_get {kindOf : Str → Option NameKind} {x : Str} {v : Value} : ∀ {P : List Str} {vs : List Value} {i : Nat} {m : Str → Option Value}, P.Nodup → P[i]? = some x → vs[i]? = some v → kindOf x = some .local →
    bindL kindOf (P.zip vs) m x = some v
  | [], _, _, _, _, h, _, _ => by simp at h
  | _ :: _, [], _, _, _, _, h, _ => by simp at h
  | p :: P, w :: vs, 0, m, nd, h1, h2, hk => by
    simp at h1 h2; subst h1; subst h2
    show bindL kindOf ((p, w) :: P.zip vs) m p = _
    unfold bindL
    rw [bindL_out fun v hv => (List.nodup_cons.mp nd).1 (List.of_mem_zip hv).1, if_pos hk]
    simp
  | p :: P, w :: vs, i + 1, m, nd, h1, h2, hk => by
    show bindL kindOf ((p, w) :: P.zip vs) m x = _
    unfold bindL
    exact bindL_get (i := i) (List.nodup_cons.mp nd).2 (by simpa using h1) (by simpa using h2) hk
theorem bindC_get {kindOf : Str → Option NameKind} {x : Str} {v : Value} : ∀ {P : List Str} {vs : List Value} {i : Nat} {m : Str → Option Value}, P.Nodup → P[i]? = some x → vs[i]? = some v → kindOf x ≠ some .local →
    bindC kindOf (P.zip vs) m x = some v
  | [], _, _, _, _, h, _, _ => by simp at h
  | _ :: _, [], _, _, _, _, h, _ => by simp at h
  | p :: P, w :: vs, 0, m, nd, h1, h2, hk => by
    simp at h1 h2; subst h1; subst h2
    show bindC kindOf ((p, w) :: P.zip vs) m p = _
    unfold bindC
    rw [bindC_out fun v hv => (List.nodup_cons.mp nd).1 (List.of_mem_zip hv).1, if_neg hk]
    simp
  | p :: P, w :: vs, i + 1, m, nd, h1, h2, hk => by
    show bindC kindOf ((p, w) :: P.zip vs) m x = _
    unfold bindC
    exact bindC_get (i := i) (List.nodup_cons.mp nd).2 (by simpa using h1) (by simpa using h2) hk

def start (N : List Str) (vs : List V) : St := vs.map some ++ List.replicate (N.length - vs.length) none

def cxOf (CX : CXT) (P : Program) (w : World) (K : PySem.W.Frag) (mg : Str → Option Value) (base : Heap) (N : List Str) (qual : Str) (scope : Scope) (f : Addr) (cd : Value) (A : Around) (outer : List Env) (s : Shared) (H : Hp) (E : XK) : Cx where
  prog := P
  w := w
  K := K
  mg := mg
  base := base
  A := A.deeper (envOfC qual scope s.heap.objs.size f cd)
  N := N
  s₀ := s
  H₀ := H
  env := envOfC qual scope s.heap.objs.size f cd
  outer := outer
  stack := envOfC qual scope s.heap.objs.size f cd :: outer
  ex := []
  calm := true
  fn := fun _ => true
  pn := []
  xe := fun e s' => wpAny (model P w) (A.deeper (envOfC qual scope s.heap.objs.size f cd)) (leaving (envOfC qual scope s.heap.objs.size f cd) e) (fun _ s'' => CX outer H s E e s'') (fun e' s'' => CX outer H s E e' s'') s'

theorem cell_has {sc : Scope} {n : Nat} {x : Str} (h : sc.names.lookup x = some .cell) : ∃ c, (cellsFrom n sc.names []).lookup x = some c := by
  have q := PySem.W.cellsFrom_some sc.names n [] (.inl h)
  exact Option.isSome_iff_exists.mp q

theorem inv_start {CX : CXT} {P : Program} {w : World} {K : PySem.W.Frag} {mg : Str → Option Value} {base : Heap} {N ps : List Str} {qual : Str} {scope : Scope} {f : Addr} {cd : Value} {A : Around} {outer : List Env} {s s1 : Shared} {H : Hp} {E : XK} {us : List Value} {vs : List V}
    (S : FnScope N ps scope) (hd : A.handled = none) (e0 : Env0 P w K mg base A outer s H) (hl : vs.length = ps.length) (r : Vals vs us)
    (x : InCallC s s.heap.objs.size (bindL (envOfC qual scope s.heap.objs.size f cd).kindOf (ps.zip us) fun _ => none) (cellsFrom (s.heap.objs.size + 1) scope.names []) (bindC (envOfC qual scope s.heap.objs.size f cd).kindOf (ps.zip us) fun _ => none) s1) :
    Inv (cxOf CX P w K mg base N qual scope f cd A outer s H E) [] (start N vs) H s1 := by
  have hpl : ps.length ≤ N.length := by have := congrArg List.length S.pre; rw [List.length_take] at this; omega
  obtain ⟨h1, tk, rfl, hk⟩ := x.done
  have noA : ∀ b : Addr, b ∉ (cxOf CX P w K mg base N qual scope f cd A outer s H E).ex := fun b z => absurd (show b ∈ ([] : List Addr) from z) (by simp)
  refine ⟨⟨e0.mod, S.kind, rfl, rfl, Nat.le_refl _, fun y z c h1 h2 => ?_, fun y hy => ?_, fun y c _ h => ?_, fun _ => hd, Around.frames_deeper e0.frames, .inr ⟨rfl, rfl⟩, fun b z => absurd z (noA b), e0.bs, e0.bsz, fun b _ _ => noA b, fun b z => absurd z (noA b), e0.funs, e0.frf⟩,
    rfl, e0.bare, Un.kept hk, ⟨_, x.toInCall.ns, fun i y v h1 h2 h3 => ?_⟩, fun y c h => ⟨_, x.cell y c h⟩, e0.hok.fresh (Nat.le_refl _), fun y c h => ?_, fun p hp => absurd (show p ∈ ([] : List (Addr × Obj)) from hp) (by simp), e0.hok.kept hk, ?_⟩
  · exact name_of_addr x.apart (PySem.mem_of_lookup h1) (PySem.mem_of_lookup h2)
  · have hy : scope.names.lookup y = some .cell ∨ scope.names.lookup y = some .free := hy
    rcases hy with hy | hy
    · exact cell_has hy
    · exact absurd rfl (S.nofree _ (PySem.mem_of_lookup hy))
  · exact Nat.le_of_lt (x.above y c (PySem.mem_of_lookup h))
  · have hi : i < vs.length := by
      unfold start at h2
      by_cases hi : i < vs.length
      · exact hi
      · rw [List.getElem?_append_right (by simpa using hi)] at h2
        rw [List.getElem?_replicate] at h2
        split at h2 <;> cases h2
    have ha : vs[i]? = some v := by
      unfold start at h2
      rw [List.getElem?_append_left (by simpa using hi), List.getElem?_map] at h2
      cases e : vs[i]? with
      | none => rw [e] at h2; cases h2
      | some a => rw [e] at h2; cases h2; rfl
    obtain ⟨u, hu, rv⟩ := r.get ha
    have hp : ps[i]? = some y := by
      rw [← S.pre, List.getElem?_take_of_lt (by omega)]; exact h1
    have ndP : ps.Nodup := by rw [← S.pre]; exact S.nd.sublist (List.take_sublist _ _)
    refine ⟨u, rv, ?_⟩
    rcases S.par y (List.mem_of_getElem? hp) with k | k
    · exact .inl ⟨k, bindL_get ndP hp hu k⟩
    · obtain ⟨c, e⟩ := cell_has (n := s.heap.objs.size + 1) k
      refine .inr ⟨.inl k, c, e, ?_⟩
      have q := x.cell y c e
      rw [bindC_get ndP hp hu (by show scope.names.lookup y ≠ _; rw [k]; decide)] at q
      exact q
  · exact e0.hok.fresh (Nat.le_of_lt (x.above y c (PySem.mem_of_lookup h)))
  · unfold start
    show _ = N.length
    rw [List.length_append, List.length_map, List.length_replicate]
    omega

theorem fn_of {CX : CXT} {P : Program} {w : World} {K : PySem.W.Frag} {mg : Str → Option Value} {base : Heap} {k : Nat} {f : Addr} {name qual : Str} {params : Arguments} {body : List Stmt} {scope : Scope} {dV kV doc pm cdv ct oc : Value} {an od : Option Addr}
    {osl : Array (Option Value)} {N ps : List Str} {sp : Sp} (lk : K.lookup f = some ⟨oc, od, .func (PySem.W.fnOf name qual params body scope dV kV doc pm an cdv ct), osl⟩) (hcd : PySem.W.codeIn K cdv qual = true) (S : FnScope N ps scope)
    (len : ∀ vs H Q E, sp vs H Q E → vs.length = ps.length)
    (hbody : ∀ (A : Around) (outer : List Env) (s : Shared) (H : Hp) (vs : List V) (Q : VK) (E : XK), Room k (A.deeper (envOfC qual scope s.heap.objs.size f cdv)) → sp vs H Q E →
      ∃ t, PSs (cxOf CX P w K mg base N qual scope f cdv A outer s H E) body t ∧ t { nx := fun _ H' => Q .non H', rt := Q } (start N vs) H) :
    FnOk P w K mg base CX (k + 1) f (PySem.W.fnOf name qual params body scope dV kV doc pm an cdv ct) ps sp := by
  refine ⟨len, fun A outer s H args us vs Q E hr e0 hb r hsp => ?_⟩
  have hl := len _ _ _ _ hsp
  have KX : K.In s.heap := e0.mod.kin.keeps fun b o e => (e0.bs b o e).1
  have lim : s.heap.NoLimit := e0.mod.nolimit.keeps fun b o e => (e0.bs b o e).1
  have hkind : ∀ y ∈ ps.zip us, scope.names.lookup y.1 = some .local ∨ (scope.names.lookup y.1 = some .cell ∧ ((cellsFrom (s.heap.objs.size + 1) scope.names []).lookup y.1).isSome = true) := fun ⟨n, v⟩ hy => by
    rcases S.par n (List.of_mem_zip hy).1 with q | q
    · exact .inl q
    · exact .inr ⟨q, PySem.W.cellsFrom_some _ _ _ (.inl q)⟩
  refine codeAny_call_function hr.depth (KX _ _ lk) rfl S.co S.gen rfl (PySem.W.codeRec_of KX hcd) (hb _ _ _ _ ?_)
  refine wpAny_newFunctionEnv_cells S.kind hkind fun env he s1 x => ?_
  subst he
  refine ⟨lim.keeps x.toInCall.keep, codeAny_func ?_⟩
  obtain ⟨t, ht, hq⟩ := hbody A outer s H vs Q E (hr.deeper _) hsp
  have I : Inv (cxOf CX P w K mg base N qual scope f cdv A outer s H E) [] (start N vs) H s1 := inv_start S hr.hd e0 hl r x
  refine wpAny_mono (ht [] s1 (start N vs) H _ I hq) (fun fl s' hs => ?_) fun e s' hs => hs
  have fin : ∀ {σ' : St} {H' : Hp} {v : V} {u : Value}, Inv (cxOf CX P w K mg base N qual scope f cdv A outer s H E) [] σ' H' s' → RelV v u → Q v H' → CE outer P w H s Q u s' :=
    fun {σ' H' v u} J rv q => ⟨v, H', J.os, J.bare, J.base, J.hok, rv, q⟩
  cases fl with
  | ret u =>
    obtain ⟨v, σ', H', J, rv, q⟩ := hs
    exact fin J rv q
  | next =>
    obtain ⟨σ', H', J, q⟩ := hs
    exact fin (v := V.non) (u := Value.none) J rfl q
  | brk =>
    obtain ⟨_, _, _, q⟩ := hs
    exact False.elim q
  | cont =>
    obtain ⟨_, _, _, q⟩ := hs
    exact False.elim q
end L2

namespace L2
open PySem PySem.Spec PyProof.Rows
section
variable {X : Cx} {x : Str} {p pos : Pos} {e : Expr} {es : List Expr} {t : TA} {id T : String} {r : List V → Hp → VK → Prop}

def tCB (r : List V → Hp → VK → Prop) (t : TA) : TE := fun σ H Q => t σ H fun vs H1 => r vs H1 Q
theorem pe_callB (hc : CallR X (.builtin id) r) (hg : Gl X x) (hm : X.mg x = none) (hv : bootBuiltins x = some (.builtin id)) (ha : PA X (e :: es) t) (hn : x ≠ "__name__" := by decide) (hdb : (x == ("__debug__" : Str)) = false := by decide)
    (he : starEach (e :: es) X.env = (false, eval e X.env) :: starEach es X.env := by rfl) (hpl : (backTo pos (starEach es X.env)).any (·.1) = false := by rfl) : PE X (.Call (.Name x p) (e :: es) [] pos) (tCB r t) := by
  intro pins s σ H Q I h
  refine wpAny_Call_Name_kw (ld_blt I hg hm hv ?_ hn hdb)
  exact PyProof.Rows.callWith_builtin1 (thn (ha pos pins s σ H _ I h) fun us s1 ⟨vs, H1, I1, r1, q1⟩ => hc pins s1 σ H1 vs us Q I1 r1 q1) he hpl
theorem pe_callTy (hc : CallR X (.type T) r) (hg : Gl X x) (hm : X.mg x = none) (hv : bootBuiltins x = some (.type T)) (ha : PA X (e :: es) t) (hn : x ≠ "__name__" := by decide) (hdb : (x == ("__debug__" : Str)) = false := by decide)
    (he : starEach (e :: es) X.env = (false, eval e X.env) :: starEach es X.env := by rfl) (hpl : (backTo pos (starEach es X.env)).any (·.1) = false := by rfl) : PE X (.Call (.Name x p) (e :: es) [] pos) (tCB r t) := by
  intro pins s σ H Q I h
  refine wpAny_Call_Name_kw (ld_blt I hg hm hv ?_ hn hdb)
  exact PyProof.Rows.callWith_type1 (thn (ha pos pins s σ H _ I h) fun us s1 ⟨vs, H1, I1, r1, q1⟩ => hc pins s1 σ H1 vs us Q I1 r1 q1) he hpl
end
end L2

namespace HT
open PySem PyProof.Rows

theorem eqAt_int (A : Around) (s : Shared) (a : Int) (t : Tok) (c : Int) (u : Tok) : ∃ e, SeqAt.EqAt A s (.int a t) (.int c u) e ∧ (e = true ↔ a = c) :=
  ⟨(a == c), SeqAt.EqAt.int_int a t c u, by simp⟩
section
open PySem.SeqAt
open PySem.AutoSeq1 (wpAny_loadPart')
open PySem.MeetsSeq PySem.MeetsSeq2 PySem.MeetsSeq3

end

section
variable {prog : Program} {w : World} {A : Around} {E : Value → Shared → Prop} {s : Shared}

def sIx (n d : Nat) : Option Int → Nat
  | none => d
  | some v => if v < 0 then (v + (n : Int)).toNat else min v.toNat n
theorem sIx_none (n d : Nat) : sIx n d none = d := rfl
theorem sIx_nat (n d k : Nat) : sIx n d (some (k : Int)) = min k n := by
  show (if (k : Int) < 0 then ((k : Int) + (n : Int)).toNat else min (k : Int).toNat n) = min k n
  rw [if_neg (by omega), Int.toNat_natCast]
theorem sIx_le (n d : Nat) (hd : d ≤ n) (o : Option Int) : sIx n d o ≤ n := by
  cases o with
  | none => exact hd
  | some v =>
    show (if v < 0 then (v + (n : Int)).toNat else min v.toNat n) ≤ n
    by_cases hv : v < 0
    · rw [if_pos hv]; omega
    · rw [if_neg hv]; exact Nat.min_le_right _ _
end
end HT

namespace L2
open PySem PySem.Spec PyProof.Rows

abbrev TO := St → Hp → (Option Int → Hp → Prop) → Prop
def PO (X : Cx) (e : Option Expr) (t : TO) : Prop :=
  ∀ (pins : List (Addr × Obj)) (s : Shared) (σ : St) (H : Hp) (Q : Option Int → Hp → Prop), Inv X pins σ H s → t σ H Q →
    wpAny (model X.prog X.w) X.A (evalPart e X.env) (fun u s' => ∃ o H', Inv X pins σ H' s' ∧ IsPart u o ∧ Q o H') X.xe s
def tNoPart : TO := fun _ H Q => Q none H
def tPart (t : TE) : TO := fun σ H Q => t σ H fun x H1 => ∃ i, x = .int i ∧ Q (some i) H1

theorem intsAre_of {ns : List Int} : ∀ {us : List Value}, Vals (ns.map V.int) us → IntsAre us ns := by
  induction ns with
  | nil => intro us r; rw [List.map_nil] at r; cases r; exact .nil
  | cons n ns ih =>
    intro us r
    rw [List.map_cons] at r
    cases r with
    | cons r1 r2 =>
      obtain ⟨t, e⟩ := r1
      subst e
      exact .cons n t (ih r2)

section
variable {X : Cx} {e : Expr} {te : TE} {lo hi : Option Expr} {tl th : TO} {pos p2 : Pos}

theorem po_none : PO X none tNoPart := by
  intro pins s σ H Q I h
  rw [evalPart_none]
  exact wpAny_pure ⟨none, H, I, .none, h⟩
theorem po_some (h : PE X e te) : PO X (some e) (tPart te) := by
  intro pins s σ H Q I hw
  rw [evalPart_some]
  refine thn (h pins s σ H _ I hw) fun u s1 ⟨x, H1, I1, r1, q1⟩ => ?_
  obtain ⟨i, rfl, q⟩ := q1
  obtain ⟨t, rfl⟩ := r1
  exact ⟨some i, H1, I1, .int i t, q⟩

def SlR (X : Cx) (r : V → Option Int → Option Int → Hp → VK → Prop) : Prop :=
  ∀ (pins : List (Addr × Obj)) (s : Shared) (σ : St) (H : Hp) (x : V) (v vl vu : Value) (lo hi : Option Int) (sl : Addr) (Q : VK), Inv X pins σ H s → RelV x v → s.heap.IsSliceOf sl vl vu .none → IsPart vl lo → IsPart vu hi → r x lo hi H Q →
    ∃ T id, typeLookup (.type T) "__getitem__" = pure (some (.builtin id)) ∧ s.TypeIs v T ∧ wpAny (model X.prog X.w) X.A (getItem v (.ref sl)) (EP X pins σ Q) X.xe s
theorem SlR.or {r r' : V → Option Int → Option Int → Hp → VK → Prop} (h : SlR X r) (h' : SlR X r') : SlR X (fun x lo hi H Q => r x lo hi H Q ∨ r' x lo hi H Q) := by
  intro pins s σ H x v vl vu lo hi sl Q I rx hs pl pu q
  rcases q with q | q
  · exact h pins s σ H x v vl vu lo hi sl Q I rx hs pl pu q
  · exact h' pins s σ H x v vl vu lo hi sl Q I rx hs pl pu q
def tSl (r : V → Option Int → Option Int → Hp → VK → Prop) (te : TE) (tl th : TO) : TE := fun σ H Q => te σ H fun x H1 => tl σ H1 fun l H2 => th σ H2 fun u H3 => r x l u H3 Q
theorem pe_slice {r : V → Option Int → Option Int → Hp → VK → Prop} (hr : SlR X r) (he : PE X e te) (hl : PO X lo tl) (hu : PO X hi th) : PE X (.Subscript e (.Slice lo hi none p2) pos) (tSl r te tl th) := by
  intro pins s σ H Q I h
  refine Subscript_ (thn (he pins s σ H _ I h) fun v s1 ⟨x, H1, I1, r1, q1⟩ => ?_)
  refine wpAny_Slice (thn (hl pins s1 σ H1 _ I1 q1) fun vl s2 ⟨l, H2, I2, pl, q2⟩ => thn (hu pins s2 σ H2 _ I2 q2) fun vu s3 ⟨u, H3, I3, pu, q3⟩ => ?_)
  rw [evalPart_none]
  refine wpAny_pure ?_
  have I4 : Inv X pins σ H3 { s3 with heap := s3.heap.push { cls := .type "slice", data := .fields #[vl, vu, .none] } } := I3.kept (t' := s3.toks) fun b ob q => Heap.get?_push_of_some _ q
  obtain ⟨T, id, hT, ht, hg⟩ := hr pins { s3 with heap := s3.heap.push { cls := .type "slice", data := .fields #[vl, vu, .none] } } σ H3 x v vl vu l u s3.heap.objs.size Q I4 r1 (Heap.IsSliceOf.new ..) pl pu q3
  show wpAny (model X.prog X.w) X.A (subscriptTail e (.Slice lo hi none p2) v (.ref s3.heap.objs.size)) (EP X pins σ Q) X.xe { s3 with heap := s3.heap.push { cls := .type "slice", data := .fields #[vl, vu, .none] } }
  exact tail_any (ops := [.ref s3.heap.objs.size, v]) ht hT hg (by with_unfolding_all rfl)

def cutV (xs : List V) (lo hi : Option Int) : List V := (xs.drop (HT.sIx xs.length 0 lo)).take (HT.sIx xs.length xs.length hi - HT.sIx xs.length 0 lo)
theorem cutV_length (xs : List V) (lo hi : Option Int) : (cutV xs lo hi).length ≤ xs.length := by
  unfold cutV
  rw [List.length_take, List.length_drop]
  omega
end
end L2

namespace L2
open PySem PySem.Spec PyProof.Rows

def ixN (n : Nat) (i : Int) : Option Nat := if 0 ≤ i then (if i < n then some i.toNat else none) else if -(n : Int) ≤ i then some (i + n).toNat else none
def atI {α : Type} (xs : List α) (i : Int) : Option α := (ixN xs.length i).bind fun j => xs[j]?
theorem ixN_seq {n : Nat} {i : Int} {j : Nat} (h : ixN n i = some j) : seqIndex? i n = some j ∧ j < n ∧ -(n : Int) ≤ i ∧ i < n := by
  unfold ixN at h
  by_cases h0 : 0 ≤ i
  · rw [if_pos h0] at h
    by_cases h1 : i < n
    · rw [if_pos h1] at h
      have e : i.toNat = j := Option.some.inj h
      exact ⟨by rw [seqIndex_of h0 h1, e], by omega, by omega, h1⟩
    · rw [if_neg h1] at h; cases h
  · rw [if_neg h0] at h
    by_cases h1 : -(n : Int) ≤ i
    · rw [if_pos h1] at h
      have e : (i + n).toNat = j := Option.some.inj h
      exact ⟨by rw [seqIndex_neg (by omega) h1, e], by omega, h1, by omega⟩
    · rw [if_neg h1] at h; cases h
theorem atI_get {α : Type} {xs : List α} {i : Int} {v : α} (h : atI xs i = some v) : ∃ j, seqIndex? i xs.length = some j ∧ xs[j]? = some v ∧ j < xs.length ∧ -(xs.length : Int) ≤ i ∧ i < xs.length := by
  unfold atI at h
  cases e : ixN xs.length i with
  | none => rw [e] at h; cases h
  | some j =>
    rw [e] at h
    obtain ⟨h1, h2, h3, h4⟩ := ixN_seq e
    exact ⟨j, h1, h, h2, h3, h4⟩
theorem atI_nat {α : Type} {xs : List α} {j : Nat} {v : α} (h : xs[j]? = some v) : atI xs (j : Int) = some v := by
  have hj : j < xs.length := (List.getElem?_eq_some_iff.mp h).1
  have e : ixN xs.length (j : Int) = some j := by
    unfold ixN
    rw [if_pos (by omega), if_pos (by omega)]; simp
  unfold atI; rw [e]; exact h
def PlainIx (b : Expr) : Prop := ∀ o i, subscripted b false o i = operate [o, i] (getItem o i)
def IxR (X : Cx) (r : R2) : Prop :=
  ∀ (value slice : Expr) (pins : List (Addr × Obj)) (s : Shared) (σ : St) (H : Hp) (x y : V) (v u : Value) (Q : VK), Inv X pins σ H s → RelV x v → RelV y u → r x y H Q →
    subscripted slice false v u = operate [v, u] (getItem v u) → wpAny (model X.prog X.w) X.A (subscriptTail value slice v u) (EP X pins σ Q) X.xe s
def MtR (X : Cx) (id : String) (r : V → List V → Hp → VK → Prop) : Prop :=
  ∀ (pins : List (Addr × Obj)) (s : Shared) (σ : St) (H : Hp) (x : V) (xs : List V) (v : Value) (us : List Value) (Q : VK), Inv X pins σ H s → RelV x v → Vals xs us → r x xs H Q →
    wpAny (model X.prog X.w) X.A (call (.builtin id) (v :: us)) (EP X pins σ Q) X.xe s
section
variable {X : Cx} {a b : Expr} {ta tb : TE} {pos : Pos}
theorem IxR.or {r r' : R2} (h : IxR X r) (h' : IxR X r') : IxR X (fun x y H Q => r x y H Q ∨ r' x y H Q) := by
  intro value slice pins s σ H x y v u Q I rx ry q hs
  rcases q with q | q
  · exact h value slice pins s σ H x y v u Q I rx ry q hs
  · exact h' value slice pins s σ H x y v u Q I rx ry q hs
theorem MtR.or {id : String} {r r' : V → List V → Hp → VK → Prop} (h : MtR X id r) (h' : MtR X id r') : MtR X id (fun x xs H Q => r x xs H Q ∨ r' x xs H Q) := by
  intro pins s σ H x xs v us Q I rx rs q
  rcases q with q | q
  · exact h pins s σ H x xs v us Q I rx rs q
  · exact h' pins s σ H x xs v us Q I rx rs q
theorem pe_ix {r : R2} (hr : IxR X r) (ha : PE X a ta) (hb : PE X b tb) (hs : PlainIx b) : PE X (.Subscript a b pos) (tOp r ta tb) := by
  intro pins s σ H Q I h
  exact Subscript_ (binT ha hb I h fun v u s2 x y H2 I2 rx ry q => hr a b pins s2 σ H2 x y v u Q I2 rx ry q (hs _ _))

def rIxL (K : PySem.W.Frag) : R2 := fun x y H Q => ∃ p xs i v, x = .ref p ∧ y = .int i ∧ SqL K H p xs ∧ atI xs i = some v ∧ Q v H
def rIxT (K : PySem.W.Frag) : R2 := fun x y H Q => ∃ p xs i v, x = .ref p ∧ y = .int i ∧ SqT K H p xs ∧ atI xs i = some v ∧ Q v H
def rIxS : R2 := fun x y H Q => ∃ z i c, x = .str z ∧ y = .int i ∧ z.length ≤ sizeLine ∧ atI z.cps.toList i = some c ∧ Q (.str ⟨#[c]⟩) H
theorem ix_list : IxR X (rIxL X.K) := by
  intro value slice pins s σ H x y v u Q I rx ry h hs
  obtain ⟨p, xs, i, z, rfl, rfl, hq, he, q⟩ := h
  cases rx
  obtain ⟨t, rfl⟩ := ry
  obtain ⟨its, r, pl, hz⟩ := I.list hq
  obtain ⟨j, h1, h2, h3, h4, h5⟩ := atI_get he
  obtain ⟨w, ew, rw'⟩ := r.get h2
  have hl := r.length
  have hn := line63
  have fin : EP X pins σ Q w s := ⟨z, H, I, rw', q⟩
  by_cases h0 : 0 ≤ i
  · have hj : i.toNat = j := by
      rw [seqIndex_of h0 h5] at h1
      exact Option.some.inj h1
    exact item_listR pl.isList h0 (by omega) (by rw [hj]; simpa using ew) fin hs
  · have hj : (i + (its.toArray.size : Int)).toNat = j := by
      rw [seqIndex_neg (by omega) h4] at h1
      rw [List.size_toArray, ← hl]
      exact Option.some.inj h1
    exact subscriptTail_builtinR (x := w) pl.isList.typeIs slot_list_getitem.lookup
      (wpAny_getItem_list_neg (Q := fun r s' => r = w ∧ EP X pins σ Q r s') pl.isList (by omega) (by rw [List.size_toArray] <;> omega) (by omega) (by rw [hj]; simpa using ew) ⟨rfl, fin⟩) hs
theorem ix_tup : IxR X (rIxT X.K) := by
  intro value slice pins s σ H x y v u Q I rx ry h hs
  obtain ⟨p, xs, i, z, rfl, rfl, hq, he, q⟩ := h
  cases rx
  obtain ⟨t, rfl⟩ := ry
  obtain ⟨its, r, pl, hz⟩ := I.tuple hq
  obtain ⟨j, h1, h2, h3, h4, h5⟩ := atI_get he
  obtain ⟨w, ew, rw'⟩ := r.get h2
  have hl := r.length
  have hn := line63
  have fin : EP X pins σ Q w s := ⟨z, H, I, rw', q⟩
  exact subscriptTail_builtinR (x := w) pl.typeIs slot_tuple_getitem.lookup
    (getItem_tuple (j := j) (Q := fun r s' => r = w ∧ EP X pins σ Q r s') pl (by omega) (by omega) (by rw [List.size_toArray, ← hl]; exact h1) (by simpa using ew) ⟨rfl, fin⟩) hs
theorem ix_str : IxR X rIxS := by
  intro value slice pins s σ H x y v u Q I rx ry h hs
  obtain ⟨z, i, c, rfl, rfl, hz, he, q⟩ := h
  obtain ⟨t, rfl⟩ := rx
  obtain ⟨t', rfl⟩ := ry
  obtain ⟨j, h1, h2, h3, h4, h5⟩ := atI_get he
  have hl : z.cps.toList.length = z.length := by simp [Str.length]
  rw [hl] at h1 h4 h5
  have hn := line63
  exact tail_any (typeIs_str s z t) slot_str_getitem.lookup (getItem_str (c := c) (by
    have e1 : decide (i < -(2 ^ 63 : Int)) = false := decide_eq_false (by omega)
    have e2 : decide (i ≥ 2 ^ 63) = false := decide_eq_false (by omega)
    rw [e1, e2, Bool.or_false]) (by rw [h1]; simpa using h2) ⟨.str ⟨#[c]⟩, H, I.tok _, ⟨_, rfl⟩, q⟩) hs
theorem Inv.lst {pins : List (Addr × Obj)} {σ : St} {H : Hp} {s : Shared} {p : Addr} {xs : List V} (I : Inv X pins σ H s) (h : H p = some (.lst xs)) :
    ∃ (its : List Value) (n : Nat), Vals xs its ∧ s.heap.get? p = some { cls := .type "list", data := .seq its.toArray n } ∧ xs.length ≤ sizeLine := by
  obtain ⟨z, its, n, r, e⟩ := I.hok p _ h
  exact ⟨its, n, r, e, z⟩
theorem slice_bounds (lo hi : Option Int) (n : Nat) : (sliceBounds lo hi none n).1 = ((HT.sIx n 0 lo : Nat) : Int) ∧ (sliceBounds lo hi none n).2.1 = ((HT.sIx n n hi : Nat) : Int) ∧ (sliceBounds lo hi none n).2.2 = 1 := by
  refine ⟨?_, ?_, rfl⟩
  · cases lo with
    | none => simp [sliceBounds, HT.sIx]
    | some i =>
      simp only [sliceBounds, HT.sIx, Option.getD_none, show (1 : Int) > 0 by decide, if_true]
      by_cases h : i < 0
      · simp only [h, if_true] <;> omega
      · simp only [h, if_false] <;> omega
  · cases hi with
    | none => simp [sliceBounds, HT.sIx]
    | some i =>
      simp only [sliceBounds, HT.sIx, Option.getD_none, show (1 : Int) > 0 by decide, if_true]
      by_cases h : i < 0
      · simp only [h, if_true] <;> omega
      · simp only [h, if_false] <;> omega
theorem slicePick_cut (its : List Value) (lo hi : Option Int) : slicePick its.toArray lo hi none = ((its.drop (HT.sIx its.length 0 lo)).take (HT.sIx its.length its.length hi - HT.sIx its.length 0 lo)).toArray := by
  obtain ⟨h1, h2, h3⟩ := slice_bounds lo hi its.toArray.size
  unfold slicePick
  rw [h1, h2, h3]
  simp only [sliceRange_one, pick_run, List.size_toArray] <;> rfl
def rSlL (K : PySem.W.Frag) : V → Option Int → Option Int → Hp → VK → Prop := fun x lo hi H Q => ∃ a xs, x = .ref a ∧ SqL K H a xs ∧ ∀ p, H p = none → Q (.ref p) (upd H p (.lst (cutV xs lo hi)))
theorem sl_list : SlR X (rSlL X.K) := by
  intro pins s σ H x v vl vu lo hi sl Q I rx hs pl pu h
  obtain ⟨a, xs, rfl, hx, q⟩ := h
  cases rx
  obtain ⟨its, r, ht, hz⟩ := I.list hx
  have hlen := r.length
  refine ⟨"list", _, slot_list_getitem.lookup, ht.isList.typeIs, ?_⟩
  refine wpAny_getItem_list_slice ht.isList hs pl pu .none (by simp) ?_ (by rw [List.size_toArray] <;> omega)
  rw [slicePick_cut, ← hlen]
  refine ⟨.ref s.heap.objs.size, _, I.laid (t' := s.toks) (o := .lst (cutV xs lo hi)) (fun b ob q => Heap.get?_push_of_some _ q) (Nat.le_refl _) ?_, rfl, q _ (I.hok.fresh (Nat.le_refl _))⟩
  exact ⟨Nat.le_trans (cutV_length xs lo hi) hz, _, 0, (r.drop (HT.sIx xs.length 0 lo)).take (HT.sIx xs.length xs.length hi - HT.sIx xs.length 0 lo), Heap.get?_push_size _ rfl⟩

def flatV : V → Bool
  | .non => true
  | .bl _ => true
  | .int _ => true
  | .str _ => true
  | _ => false
def eqV : V → V → Bool
  | .non, .non => true
  | .bl a, .bl b => a == b
  | .bl a, .int b => (if a then 1 else 0) == b
  | .int a, .bl b => a == (if b then 1 else 0)
  | .int a, .int b => a == b
  | .str a, .str b => a == b
  | _, _ => false
theorem eqAt_V {A : Around} {s : Shared} {y x : V} {u v : Value} (ry : RelV y u) (rx : RelV x v) (fy : flatV y = true) (fx : flatV x = true) : SeqAt.EqAt A s u v (eqV y x) := by
  cases y with
  | non =>
    cases ry
    cases x with
    | non => cases rx; exact SeqAt.EqAt.same _
    | bl b => cases rx; exact SeqAt.EqAt.none_bool b
    | int b => obtain ⟨t, rfl⟩ := rx; exact SeqAt.EqAt.none_int b t
    | str b => obtain ⟨t, rfl⟩ := rx; exact SeqAt.EqAt.none_str b t
    | _ => exact absurd (show false = true from fx) Bool.false_ne_true
  | bl a =>
    cases ry
    cases x with
    | non => cases rx; exact SeqAt.EqAt.bool_none a
    | bl b => cases rx; exact SeqAt.EqAt.bool_bool a b
    | int b => obtain ⟨t, rfl⟩ := rx; exact SeqAt.EqAt.bool_int a b t
    | str b => obtain ⟨t, rfl⟩ := rx; exact SeqAt.EqAt.bool_str a b t
    | _ => exact absurd (show false = true from fx) Bool.false_ne_true
  | int a =>
    obtain ⟨t', rfl⟩ := ry
    cases x with
    | non => cases rx; exact SeqAt.EqAt.int_none a t'
    | bl b => cases rx; exact SeqAt.EqAt.int_bool a t' b
    | int b => obtain ⟨t, rfl⟩ := rx; exact SeqAt.EqAt.int_int a t' b t
    | str b => obtain ⟨t, rfl⟩ := rx; exact SeqAt.EqAt.int_str a t' b t
    | _ => exact absurd (show false = true from fx) Bool.false_ne_true
  | str a =>
    obtain ⟨t', rfl⟩ := ry
    cases x with
    | non => cases rx; exact SeqAt.EqAt.str_none a t'
    | bl b => cases rx; exact SeqAt.EqAt.str_bool a t' b
    | int b => obtain ⟨t, rfl⟩ := rx; exact SeqAt.EqAt.str_int a t' b t
    | str b => obtain ⟨t, rfl⟩ := rx; exact SeqAt.EqAt.str_str a t' b t
    | _ => exact absurd (show false = true from fx) Bool.false_ne_true
  | _ => exact absurd (show false = true from fy) Bool.false_ne_true
def eqU (x : V) (u : Value) : Bool := match u with
  | .none => eqV .non x
  | .bool b => eqV (.bl b) x
  | .int i _ => eqV (.int i) x
  | .str z _ => eqV (.str z) x
  | _ => false
theorem eqU_of {x y : V} {u : Value} (r : RelV y u) (f : flatV y = true) : eqU x u = eqV y x := by
  cases y with
  | non => cases r; rfl
  | bl b => cases r; rfl
  | int i => obtain ⟨t, rfl⟩ := r; rfl
  | str z => obtain ⟨t, rfl⟩ := r; rfl
  | _ => exact absurd (show false = true from f) Bool.false_ne_true
theorem any_eqU {x : V} : ∀ {xs : List V} {us : List Value}, Vals xs us → xs.all flatV = true → us.any (eqU x) = xs.any fun y => eqV y x
  | _, _, .nil, _ => rfl
  | y :: xs, u :: us, .cons r t, f => by
    rw [List.all_cons, Bool.and_eq_true] at f
    rw [List.any_cons, List.any_cons, eqU_of r f.1, any_eqU t f.2]
theorem mem_eqAt {A : Around} {s : Shared} {x : V} {v : Value} (rx : RelV x v) (fx : flatV x = true) : ∀ {xs : List V} {us : List Value}, Vals xs us → xs.all flatV = true → ∀ u ∈ us, SeqAt.EqAt A s u v (eqU x u)
  | _, _, .nil, _ => fun u hu => by cases hu
  | y :: xs, u :: us, .cons r t, f => fun u' hu => by
    rw [List.all_cons, Bool.and_eq_true] at f
    rcases List.mem_cons.mp hu with rfl | hu
    · rw [eqU_of r f.1]; exact eqAt_V r rx f.1 fx
    · exact mem_eqAt rx fx t f.2 u' hu
def inV (x : V) (xs : List V) : Bool := xs.any fun y => eqV y x
def rIn (K : PySem.W.Frag) (neg : Bool) : R2 := fun x y H Q => ∃ p xs, y = .ref p ∧ (SqL K H p xs ∨ SqT K H p xs) ∧ flatV x = true ∧ xs.all flatV = true ∧ Q (.bl (if neg then !inV x xs else inV x xs)) H
theorem op_in_seq : OpR X (compareOp .In) (rIn X.K false) := by
  intro pins s σ H x y v u Q I rx ry h
  obtain ⟨p, xs, rfl, hq, fx, fs, q⟩ := h
  cases ry
  rcases hq with hq | hq
  · obtain ⟨its, r, pl, hz⟩ := I.list hq
    refine SeqAt.in_listAt (eqU x) pl.isList (fun w hw => mem_eqAt rx fx r fs w (by simpa using hw)) ⟨.bl _, H, I, rfl, ?_⟩
    rw [show its.toArray.any (eqU x) = its.any (eqU x) by simp, any_eqU r fs]
    exact q
  · obtain ⟨its, r, pl, hz⟩ := I.tuple hq
    refine SeqAt.in_tupleAt (eqU x) pl (fun w hw => mem_eqAt rx fx r fs w (by simpa using hw)) ⟨.bl _, H, I, rfl, ?_⟩
    rw [show its.toArray.any (eqU x) = its.any (eqU x) by simp, any_eqU r fs]
    exact q
theorem call_len_seq : CallR X (.builtin "len") (fun xs H Q => ∃ p ys, xs = [.ref p] ∧ (SqL X.K H p ys ∨ SqT X.K H p ys) ∧ Q (.int ys.length) H) := by
  intro pins s σ H xs us Q I r h
  obtain ⟨p, ys, rfl, hq, q⟩ := h
  obtain ⟨u, rfl, rx⟩ := vals1 r
  cases rx
  have hn := line63
  rcases hq with hq | hq
  · obtain ⟨its, r', pl, hz⟩ := I.list hq
    have hlen := r'.length
    exact Calls.call_len_list pl.isList (by simp only [List.size_toArray] <;> omega) ⟨.int ys.length, H, I.tok _, ⟨s.toks + 1, by rw [List.size_toArray, hlen]⟩, q⟩
  · obtain ⟨its, r', pl, hz⟩ := I.tuple hq
    have hlen := r'.length
    exact len_tuple pl (by simp only [List.size_toArray] <;> omega) ⟨.int ys.length, H, I.tok _, ⟨s.toks + 1, by rw [List.size_toArray, hlen]⟩, q⟩
theorem call_len_str : CallR X (.builtin "len") (fun xs H Q => ∃ z, xs = [.str z] ∧ z.length ≤ sizeLine ∧ Q (.int z.length) H) := by
  intro pins s σ H xs us Q I r h
  obtain ⟨z, rfl, hz, q⟩ := h
  obtain ⟨u, rfl, t, rfl⟩ := vals1 r
  have hn := line63
  exact len_str (by omega) ⟨.int z.length, H, I.tok _, ⟨_, rfl⟩, q⟩
theorem CallR.or {f : Value} {r r' : List V → Hp → VK → Prop} (h : CallR X f r) (h' : CallR X f r') : CallR X f (fun xs H Q => r xs H Q ∨ r' xs H Q) := by
  intro pins s σ H xs us Q I rs q
  rcases q with q | q
  · exact h pins s σ H xs us Q I rs q
  · exact h' pins s σ H xs us Q I rs q
theorem call_list_of : CallR X (.type "list") (fun xs H Q => ∃ p ys, xs = [.ref p] ∧ (SqL X.K H p ys ∨ SqT X.K H p ys) ∧ ∀ l, H l = none → Q (.ref l) (upd H l (.lst ys))) := by
  intro pins s σ H xs us Q I r h
  obtain ⟨p, ys, rfl, hq, q⟩ := h
  obtain ⟨u, rfl, rx⟩ := vals1 r
  cases rx
  have fin : ∀ (its : List Value), Vals ys its → ys.length ≤ sizeLine → ∀ (h' : Heap) (c' : Nat), (∀ b o', s.heap.get? b = some o' → h'.get? b = some o') →
      h'.get? s.heap.objs.size = some { cls := .type "list", dict := none, data := .seq its.toArray c', slots := #[] } → EP X pins σ Q (.ref s.heap.objs.size) { s with heap := h' } := fun its r' hz h' c' kp e =>
    ⟨.ref s.heap.objs.size, _, I.laid (t' := s.toks) kp (Nat.le_refl _) (show ObjOk X.prog X.w _ h' _ (.lst ys) from ⟨hz, its, c', r', e⟩), rfl, q _ (I.hok.fresh (Nat.le_refl _))⟩
  rcases hq with hq | hq
  · obtain ⟨its, r', pl, hz⟩ := I.list hq
    have hlen := r'.length
    obtain ⟨o, ho, hc, n, hd⟩ := pl.isList
    exact call_list_seq p (.inl rfl) ho hc hd (fun h' c' kp e => fin its r' hz h' c' kp e) (by simp only [List.size_toArray] <;> omega)
  · obtain ⟨its, r', pl, hz⟩ := I.tuple hq
    have hlen := r'.length
    obtain ⟨o, ho, hc, n, hd⟩ := pl
    exact call_list_seq p (.inr rfl) ho hc hd (fun h' c' kp e => fin its r' hz h' c' kp e) (by simp only [List.size_toArray] <;> omega)
def tyV (K : PySem.W.Frag) (T : String) (x : V) (H : Hp) : Prop := match x with
  | .str _ => T = "str"
  | .int _ => T = "int"
  | .ref p => (T = "list" ∧ ∃ xs, SqL K H p xs) ∨ (T = "tuple" ∧ ∃ o, K.lookup p = some o ∧ o.cls = .type "tuple" ∧ o.dict = none) ∨
      (T = "dict" ∧ ((∃ kvs, H p = some (.dK kvs)) ∨ ∃ kvs, H p = some (.dT kvs))) ∨ (T = "set" ∧ ∃ S n, H p = some (.set S n))
  | _ => False
theorem tyV_is {pins : List (Addr × Obj)} {σ : St} {H : Hp} {s : Shared} {T : String} {x : V} {v : Value} (I : Inv X pins σ H s) (r : RelV x v) (ty : tyV X.K T x H) :
    s.TypeIs v T ∧ ∀ a, v = .ref a → ∃ ob, s.heap.get? a = some ob ∧ ob.dict = none := by
  cases x with
  | str z =>
    obtain ⟨t, rfl⟩ := r
    cases (show T = "str" from ty)
    exact ⟨typeIs_str s z t, fun _ e => nomatch e⟩
  | int i =>
    obtain ⟨t, rfl⟩ := r
    cases (show T = "int" from ty)
    exact ⟨typeIs_int s i t, fun _ e => nomatch e⟩
  | ref p =>
    cases r
    rcases ty with ⟨rfl, xs, hq⟩ | ⟨rfl, o, hk, hc, hd⟩ | ⟨rfl, hk⟩ | ⟨rfl, S, n, hk⟩
    · obtain ⟨its, _, pl, _⟩ := I.list hq
      refine ⟨pl.isList.typeIs, fun a e => ?_⟩
      cases e
      obtain ⟨o, n, e, c, hd, _⟩ := pl
      exact ⟨o, e, hd⟩
    · refine ⟨⟨o, I.kIn p o hk, hc⟩, fun a e => ?_⟩
      cases e
      exact ⟨o, I.kIn _ o hk, hd⟩
    · have z : ∃ o, s.heap.get? p = some o ∧ o.ExactDict := by
        rcases hk with ⟨kvs, hk⟩ | ⟨kvs, hk⟩
        · obtain ⟨_, _, _, _, o, _, _, e, ex, _⟩ := I.hok p _ hk
          exact ⟨o, e, ex⟩
        · obtain ⟨_, _, _, _, o, _, _, e, ex, _⟩ := I.hok p _ hk
          exact ⟨o, e, ex⟩
      obtain ⟨o, e, ex⟩ := z
      refine ⟨⟨o, e, ex.1⟩, fun a e2 => ?_⟩
      cases e2
      exact ⟨o, e, ex.2.1⟩
    · obtain ⟨o, _, _, _, e, ex, _⟩ := I.hok p _ hk
      refine ⟨⟨o, e, ex.1⟩, fun a e2 => ?_⟩
      cases e2
      exact ⟨o, e, ex.2.1⟩
  | _ => exact False.elim ty
def tBM (K : PySem.W.Frag) (T : String) (r : V → List V → Hp → VK → Prop) (to : TE) (t : TA) : TE := fun σ H Q => to σ H fun x H1 => tyV K T x H1 ∧ t σ H1 fun xs H2 => r x xs H2 Q
variable {o e : Expr} {es : List Expr} {to : TE} {t : TA} {name : Str} {apos cpos : Pos} {T id : String} {r : V → List V → Hp → VK → Prop}
theorem pe_bm (pa : PlainAttrs T) (slot : Slot T name id) (hty : typeOf (.builtin id) = pure (.type "method_descriptor")) (hm : MtR X id r) (ho : PE X o to) (ha : PA X (e :: es) t)
    (hbase : attributeBase o name X.env (eval o X.env) = eval o X.env := by rfl)
    (hfew : ((backTo cpos (starEach (e :: es) X.env)).all (fun x => !x.1) && (backToKw cpos (keywordEach [] X.env)).all (fun x => x.1.isSome)
      && decide ((e :: es).length + ([] : List Keyword).length + (if ([] : List Keyword).isEmpty then 0 else 1) < 30)) = true := by rfl)
    (hline : (apos.endLine == cpos.line) = true := by rfl) (hs : starEach (e :: es) X.env = (false, eval e X.env) :: starEach es X.env := by rfl) (hplain : (backTo cpos (starEach es X.env)).any (·.1) = false := by rfl) :
    PE X (.Call (.Attribute o name apos) (e :: es) [] cpos) (tBM X.K T r to t) := by
  intro pins s σ H Q I h
  refine wpAny_Call_method_late hbase hfew hline rfl (thn (ho pins s σ H _ I h) fun v s1 ⟨x, H1, I1, r1, ty, q1⟩ => ?_)
  obtain ⟨h1, h2⟩ := tyV_is I1 r1 ty
  refine ⟨T, id, pa, slot, hty, h1, h2, ?_⟩
  have hA := ha cpos pins s1 σ H1 _ I1 q1
  rw [hs] at hA ⊢
  refine Calls.callWith_builtin (by show (false || (backTo cpos (starEach es X.env)).any (·.1)) = false; rw [hplain] <;> rfl) (Calls.evalArgs_plain ?_)
  exact thn hA fun us s2 ⟨vs, H2, I2, r2, q2⟩ => hm pins s2 σ H2 x vs v us Q I2 r1 r2 q2
end
end L2

namespace L2
open PySem PySem.Spec PyProof.Rows

def MtM (X : Cx) (id : String) (r : V → List V → Hp → VK → Prop) : Prop :=
  ∀ (pins : List (Addr × Obj)) (s : Shared) (σ : St) (H : Hp) (x : V) (xs : List V) (v : Value) (us : List Value) (Q : VK), Inv X pins σ H s → RelV x v → Vals xs us → r x xs H Q →
    wpAny (model X.prog X.w) X.A (call (.builtin id) (v :: us)) (EP X pins σ Q) X.xe s

theorem Vals.one : ∀ {x : V} {us : List Value}, Vals [x] us → ∃ u, us = [u] ∧ RelV x u
  | _, _, .cons r .nil => ⟨_, rfl, r⟩
theorem Vals.two : ∀ {x y : V} {us : List Value}, Vals [x, y] us → ∃ u v, us = [u, v] ∧ RelV x u ∧ RelV y v
  | _, _, _, .cons r (.cons q .nil) => ⟨_, _, rfl, r, q⟩
theorem Vals.zero : ∀ {us : List Value}, Vals [] us → us = []
  | _, .nil => rfl
theorem Vals.eraseIdx : ∀ {xs : List V} {us : List Value} (i : Nat), Vals xs us → Vals (xs.eraseIdx i) (us.eraseIdx i)
  | _, _, _, .nil => .nil
  | _, _, 0, .cons _ t => t
  | _, _, i + 1, .cons r t => .cons r (Vals.eraseIdx i t)
theorem Vals.reverse {xs : List V} {us : List Value} (h : Vals xs us) : Vals xs.reverse us.reverse := by
  induction h with
  | nil => exact .nil
  | cons r t ih => rw [List.reverse_cons, List.reverse_cons]; exact Vals.append ih (.cons r .nil)
theorem Vals.rep {xs : List V} {us : List Value} (h : Vals xs us) : ∀ k : Nat, Vals (List.replicate k xs).flatten (List.replicate k us).flatten
  | 0 => .nil
  | k + 1 => by
    rw [List.replicate_succ, List.replicate_succ, List.flatten_cons, List.flatten_cons]
    exact Vals.append h (Vals.rep h k)
theorem foldl_rep (its : List Value) : ∀ (k : Nat) (acc : List Value),
    List.foldl (fun x1 x2 => x1 ++ x2) acc.toArray (List.replicate k its.toArray) = (acc ++ (List.replicate k its).flatten).toArray
  | 0, acc => by simp
  | k + 1, acc => by
    have e : acc.toArray ++ its.toArray = (acc ++ its).toArray := by simp
    have e2 : (acc ++ its) ++ (List.replicate k its).flatten = acc ++ (List.replicate (k + 1) its).flatten := by
      rw [List.replicate_succ, List.flatten_cons, List.append_assoc]
    rw [← e2, ← foldl_rep its k (acc ++ its), ← e, List.replicate_succ, List.foldl_cons]

section
variable {X : Cx} {pins : List (Addr × Obj)} {σ : St} {H : Hp} {s : Shared} {l b : Addr} {xs ys zs : List V}

theorem Inv.lset {its its' : List Value} {n : Nat} {f : Array Value → Array Value} {t' : Nat} (I : Inv X pins σ H s) (hH : H l = some (.lst xs))
    (e : s.heap.get? l = some { cls := .type "list", data := .seq its.toArray n }) (hf : f its.toArray = its'.toArray) (hv : Vals ys its') (hz : ys.length ≤ sizeLine) :
    Inv X pins σ (upd H l (.lst ys)) { s with heap := s.heap.update l (Obj.mapSeq f), toks := t' } := by
  have q := PySem.IsL.update e f
  rw [hf] at q
  refine I.write (x := l) (e := l) (by rw [hH]; exact trivial) (.inl rfl) (fun b' u hb hu => (Heap.get?_update_other s.heap (Obj.mapSeq f) (Ne.symm hb)).trans hu) ⟨_, q⟩ ?_
  exact ⟨hz, its', _, hv, q⟩
theorem Inv.lnew {its : List Value} {t' : Nat} (I : Inv X pins σ H s) (hv : Vals ys its) (hz : ys.length ≤ sizeLine) :
    Inv X pins σ (upd H s.heap.objs.size (.lst ys)) { s with heap := s.heap.push { cls := .type "list", data := .seq its.toArray }, toks := t' } :=
  I.laid (fun _ _ q => Heap.get?_push_of_some _ q) (Nat.le_refl _) ⟨hz, its, 0, hv, Heap.get?_push_size _ rfl⟩
theorem Inv.fresh (I : Inv X pins σ H s) : H s.heap.objs.size = none := I.hok.fresh (Nat.le_refl _)
theorem Inv.lstM (I : Inv X pins σ H s) (hH : H l = some (.lst xs)) : xs.length ≤ sizeLine ∧ ∃ (its : List Value) (n : Nat), Vals xs its ∧ xs.length = its.length ∧ s.heap.get? l = some { cls := .type "list", data := .seq its.toArray n } := by
  obtain ⟨z, its, n, r, e⟩ := I.hok l _ hH
  exact ⟨z, its, n, r, r.length, e⟩

theorem notLongL {n : Nat} (h : n ≤ sizeLine) : Builtin.List.listTooLong n = false := by
  unfold Builtin.List.listTooLong
  exact decide_eq_false (by omega)
end

section
variable {X : Cx}

def rAppend : V → List V → Hp → VK → Prop := fun x vs H Q => ∃ l xs y, x = .ref l ∧ vs = [y] ∧ H l = some (.lst xs) ∧ xs.length < sizeLine ∧ Q .non (upd H l (.lst (xs ++ [y])))
theorem mt_append : MtM X "list.append" rAppend := by
  intro pins s σ H x vs v us Q I rx rv h
  obtain ⟨l, xs, y, rfl, rfl, hH, hz, q⟩ := h
  cases rx
  obtain ⟨u, rfl, ru⟩ := rv.one
  obtain ⟨z, its, n, r, hl, e⟩ := I.lstM hH
  refine call_meets F.slot_list_append ⟨_, e, rfl⟩ F.entry_list_append (F.args_list_append_2 _ _) (PySem.list_append l its.toArray n u (by rw [List.size_toArray]; omega)) ⟨e, ?_⟩
  refine ⟨.non, _, I.lset (its' := its ++ [u]) hH e (by simp) (r.append (.cons ru .nil)) ?_, rfl, q⟩
  rw [List.length_append, List.length_singleton]
  omega

def rCat : R2 := fun x y H Q => ∃ l b xs zs, x = .ref l ∧ y = .ref b ∧ H l = some (.lst xs) ∧ H b = some (.lst zs) ∧ xs.length + zs.length ≤ sizeLine ∧ ∀ p, H p = none → Q (.ref p) (upd H p (.lst (xs ++ zs)))
theorem op_cat : OpR X (binaryOp .Add) rCat := by
  intro pins s σ H x y v u Q I rx ry h
  obtain ⟨l, b, xs, zs, rfl, rfl, hH, hB, hz, q⟩ := h
  cases rx
  cases ry
  obtain ⟨z, its, n, r, hl, e⟩ := I.lstM hH
  obtain ⟨z2, its2, n2, r2, hl2, e2⟩ := I.lstM hB
  refine PySem.P.add_list e e2 ?_ (by rw [List.size_toArray, List.size_toArray]; omega)
  have ea : its.toArray ++ its2.toArray = (its ++ its2).toArray := by simp
  rw [ea]
  exact ⟨.ref _, _, I.lnew (t' := s.toks) (r.append r2) (by rw [List.length_append]; omega), rfl, q _ I.fresh⟩
def rRep : R2 := fun x y H Q => ∃ l k xs, x = .ref l ∧ y = .int k ∧ H l = some (.lst xs) ∧ -(2 ^ 63) ≤ k ∧ k < 2 ^ 63 ∧ xs.length * k.toNat ≤ sizeLine ∧
  ∀ p, H p = none → Q (.ref p) (upd H p (.lst (List.replicate k.toNat xs).flatten))
theorem len_rep {α : Type} (xs : List α) (k : Nat) : (List.replicate k xs).flatten.length = k * xs.length := by
  induction k with
  | zero => simp
  | succ k ih => rw [List.replicate_succ, List.flatten_cons, List.length_append, ih, Nat.succ_mul, Nat.add_comm]
theorem op_rep : OpR X (binaryOp .Mult) rRep := by
  intro pins s σ H x y v u Q I rx ry h
  obtain ⟨l, k, xs, rfl, rfl, hH, h1, h2, hz, q⟩ := h
  cases rx
  obtain ⟨t, rfl⟩ := ry
  obtain ⟨z, its, n, r, hl, e⟩ := I.lstM hH
  have hlen : its.toArray.size * k.toNat ≤ sizeLine := by rw [List.size_toArray, ← hl]; exact hz
  have hcap : ¬ its.toArray.size * k.toNat > (2 ^ 63 - 1) / 8 := by
    have : (sizeLine : Nat) ≤ (2 ^ 63 - 1) / 8 := by decide
    omega
  have hfit : ¬ (!Builtin.List.listFitsIndex k) = true := by
    rw [fitsIndex_both h1 h2]
    exact Bool.false_ne_true
  have hlong : ¬ Builtin.List.listTooLong (its.toArray.size * k.toNat) = true := by
    rw [notLongL hlen]
    exact Bool.false_ne_true
  have hnew : List.foldl (fun x1 x2 => x1 ++ x2) #[] (List.replicate (if its.toArray.isEmpty = true then 0 else k.toNat) its.toArray) = (List.replicate k.toNat its).flatten.toArray := by
    have f0 : ∀ m : Nat, List.foldl (fun x1 x2 => x1 ++ x2) #[] (List.replicate m its.toArray) = (List.replicate m its).flatten.toArray := fun m => by
      have := foldl_rep its m []
      rw [List.nil_append] at this
      exact this
    rw [f0]
    cases its with
    | nil => simp
    | cons a r' => rw [if_neg (by simp)]
  refine wpAny_binaryOp_repeat_ref (T := "list") (U := "int") (by decide) ⟨_, e, rfl⟩ (fun s' => typeIs_int s' k t) noFill_list_mul F.fills_int_mul F.slot_int_rmul repeat_list F.slot_int_index.lookup
    (call_meets F.slot_int_rmul (typeIs_int s k t) F.entry_int_rmul (F.args_int_rmul_2 _ _) (int___rmul___int_list k t l its.toArray n)
      ⟨e, rfl, ⟨_, e, rfl⟩, call_meets F.slot_list_mul ⟨_, e, rfl⟩ F.entry_list_mul (F.args_list_mul_2 _ _) (AutoListH.list___mul___list_int_3 l its.toArray n k t hfit hcap hlong) ⟨e, ?_⟩⟩)
  rw [hnew]
  exact ⟨.ref _, _, I.lnew (t' := s.toks) (r.rep k.toNat) (by rw [len_rep, Nat.mul_comm]; exact hz), rfl, q _ I.fresh⟩

end

section
variable {prog : Program} {w : World} {A : Around} {E : Value → Shared → Prop} {s : Shared}
end

section
variable {X : Cx}
end
end L2


namespace L2
open PySem PySem.Spec PyProof.Rows

section
variable {κ : Type} [DecidableEq κ]
def valV (kvs : List (κ × V)) (k : κ) : Option V := (kvs.find? fun kv => decide (kv.1 = k)).map (·.2)
def putK (kvs : List (κ × V)) (k : κ) (v : V) : List (κ × V) :=
  if (kvs.any fun kv => decide (kv.1 = k)) = true then kvs.map (fun kv => if kv.1 = k then (kv.1, v) else kv) else kvs ++ [(k, v)]
def dropK (kvs : List (κ × V)) (k : κ) : List (κ × V) := kvs.filter fun kv => decide (kv.1 ≠ k)

theorem valV_pos {p : κ × V} {r : List (κ × V)} {k : κ} (e : p.1 = k) : valV (p :: r) k = some p.2 := by simp [valV, List.find?_cons, e]
theorem valV_neg {p : κ × V} {r : List (κ × V)} {k : κ} (e : ¬ p.1 = k) : valV (p :: r) k = valV r k := by simp [valV, List.find?_cons, e]
theorem valV_any (k : κ) : ∀ kvs : List (κ × V), (kvs.any fun kv => decide (kv.1 = k)) = (valV kvs k).isSome
  | [] => rfl
  | p :: r => by
    rw [List.any_cons]
    by_cases e : p.1 = k
    · simp only [valV_pos e, decide_eq_true e, Bool.true_or, Option.isSome_some]
    · rw [valV_neg e, decide_eq_false e, Bool.false_or]; exact valV_any k r
theorem valV_map (k j : κ) (y : V) : ∀ kvs : List (κ × V), valV (kvs.map fun kv => if kv.1 = k then (kv.1, y) else kv) j = (valV kvs j).map fun x => if j = k then y else x
  | [] => rfl
  | p :: r => by
    have ih := valV_map k j y r
    rw [List.map_cons]
    by_cases h : p.1 = k
    · rw [if_pos h]
      by_cases e : p.1 = j
      · rw [valV_pos (p := (p.1, y)) e, valV_pos e, Option.map_some, if_pos (e.symm.trans h)]
      · rw [valV_neg (p := (p.1, y)) e, valV_neg e, ih]
    · rw [if_neg h]
      by_cases e : p.1 = j
      · rw [valV_pos (p := p) e, valV_pos e, Option.map_some, if_neg (fun z => h (e.trans z))]
      · rw [valV_neg (p := p) e, valV_neg e, ih]
theorem valV_snoc (k j : κ) (y : V) : ∀ kvs : List (κ × V), valV kvs k = none → valV (kvs ++ [(k, y)]) j = if j = k then some y else valV kvs j
  | [], _ => by
    by_cases e : k = j
    · rw [if_pos e.symm]; exact valV_pos (p := (k, y)) e
    · rw [if_neg (fun z => e z.symm)]; exact valV_neg (p := (k, y)) e
  | p :: r, hn => by
    rw [List.cons_append]
    have hk : ¬ p.1 = k := fun z => by rw [valV_pos z] at hn; cases hn
    rw [valV_neg hk] at hn
    have ih := valV_snoc k j y r hn
    by_cases e : p.1 = j
    · rw [valV_pos e, valV_pos e, if_neg (fun z => hk (e.trans z))]
    · rw [valV_neg e, valV_neg e, ih]
theorem valV_put (kvs : List (κ × V)) (k j : κ) (y : V) : valV (putK kvs k y) j = if j = k then some y else valV kvs j := by
  unfold putK
  by_cases a : (kvs.any fun kv => decide (kv.1 = k)) = true
  · rw [if_pos a, valV_map]
    rw [valV_any] at a
    by_cases e : j = k
    · obtain ⟨x, hx⟩ := Option.isSome_iff_exists.mp a
      rw [if_pos e, e, hx, Option.map_some, if_pos rfl]
    · rw [if_neg e]
      cases valV kvs j with
      | none => rfl
      | some x => rw [Option.map_some, if_neg e]
  · rw [if_neg a]
    refine valV_snoc k j y kvs ?_
    rw [valV_any] at a
    cases q : valV kvs k with
    | none => rfl
    | some x => rw [q] at a; exact (a rfl).elim
theorem length_putK (kvs : List (κ × V)) (k : κ) (v : V) : (putK kvs k v).length ≤ kvs.length + 1 := by
  unfold putK
  split
  · rw [List.length_map]; omega
  · rw [List.length_append, List.length_cons, List.length_nil]; omega
theorem RelO.isSome_eq {o : Option V} {u : Option Value} (r : RelO o u) : o.isSome = u.isSome := by
  cases o with
  | none => cases u with
    | none => rfl
    | some _ => exact (show False from r).elim
  | some _ => cases u with
    | none => exact (show False from r).elim
    | some _ => rfl
theorem RelO.getD {o : Option V} {u : Option Value} {d : V} {d' : Value} (r : RelO o u) (rd : RelV d d') : RelV (o.getD d) (u.getD d') := by
  cases o with
  | none => cases u with
    | none => exact rd
    | some _ => exact (show False from r).elim
  | some _ => cases u with
    | none => exact (show False from r).elim
    | some _ => exact r

theorem KV.val {kvs : List (κ × V)} {vs : List (κ × Value)} (r : KV kvs vs) (k : κ) : RelO (valV kvs k) (valueAt vs k) := by
  unfold KV at r
  induction r with
  | nil => exact True.intro
  | @cons p q ps qs h t ih =>
    obtain ⟨h1, h2⟩ := h
    by_cases e : p.1 = k
    · have e' : q.1 = k := h1.symm.trans e
      have b : valueAt (q :: qs) k = some q.2 := by simp [valueAt, List.find?_cons, e']
      rw [valV_pos e, b]; exact h2
    · have e' : ¬ q.1 = k := fun z => e (h1.trans z)
      have b : valueAt (q :: qs) k = valueAt qs k := by simp [valueAt, List.find?_cons, e']
      rw [valV_neg e, b]; exact ih
theorem KV.any {kvs : List (κ × V)} {vs : List (κ × Value)} (r : KV kvs vs) (k : κ) : (kvs.any fun kv => decide (kv.1 = k)) = vs.any fun kv => decide (kv.1 = k) := by
  unfold KV at r
  induction r with
  | nil => rfl
  | cons h t ih => rw [List.any_cons, List.any_cons, ih, h.1]
theorem KV.repl {kvs : List (κ × V)} {vs : List (κ × Value)} (r : KV kvs vs) (k : κ) {y : V} {u : Value} (ry : RelV y u) :
    KV (kvs.map fun kv => if kv.1 = k then (kv.1, y) else kv) (vs.map fun kv => if kv.1 = k then (kv.1, u) else kv) := by
  unfold KV at r ⊢
  induction r with
  | nil => exact .nil
  | @cons p q ps qs h t ih =>
    rw [List.map_cons, List.map_cons]
    refine .cons ?_ ih
    obtain ⟨h1, h2⟩ := h
    by_cases e : p.1 = k
    · rw [if_pos e, if_pos (h1.symm.trans e)]; exact ⟨h1, ry⟩
    · rw [if_neg e, if_neg (fun z => e (h1.trans z))]; exact ⟨h1, h2⟩
theorem KV.put {kvs : List (κ × V)} {vs : List (κ × Value)} (r : KV kvs vs) (k : κ) {y : V} {u : Value} (ry : RelV y u) : KV (putK kvs k y) (stored vs k u) := by
  unfold putK stored
  rw [r.any k]
  by_cases e : (vs.any fun kv => decide (kv.1 = k)) = true
  · rw [if_pos e, if_pos e]; exact r.repl k ry
  · rw [if_neg e, if_neg e]; exact Paired.snoc r ⟨rfl, ry⟩
theorem KV.drop {kvs : List (κ × V)} {vs : List (κ × Value)} (r : KV kvs vs) (k : κ) : KV (dropK kvs k) (without vs k) := by
  unfold KV at r ⊢
  unfold dropK without
  induction r with
  | nil => exact .nil
  | @cons p q ps qs h t ih =>
    obtain ⟨h1, h2⟩ := h
    rw [List.filter_cons, List.filter_cons]
    by_cases e : p.1 = k
    · have a : ¬ decide (p.1 ≠ k) = true := by simp [e]
      have b : ¬ decide (q.1 ≠ k) = true := by simp [h1.symm.trans e]
      rw [if_neg a, if_neg b]; exact ih
    · have e' : ¬ q.1 = k := fun z => e (h1.trans z)
      have a : decide (p.1 ≠ k) = true := by simp [e]
      have b : decide (q.1 ≠ k) = true := by simp [e']
      rw [if_pos a, if_pos b]; exact .cons ⟨h1, h2⟩ ih
theorem KV.keys {kvs : List (κ × V)} {vs : List (κ × Value)} (r : KV kvs vs) : kvs.map (·.1) = vs.map (·.1) := by
  unfold KV at r
  induction r with
  | nil => rfl
  | cons h t ih => rw [List.map_cons, List.map_cons, ih, h.1]
theorem KV.length {kvs : List (κ × V)} {vs : List (κ × Value)} (r : KV kvs vs) : kvs.length = vs.length := Paired.length r
end


theorem kV_is {P : Program} {w : World} {k : Key} {u : Value} (r : RelV (kV k) u) : (mixKind P w).is k u = true := by
  cases k with
  | inl i => obtain ⟨t, e⟩ := (show ∃ t, u = Value.int i t from r); subst e; exact mixKind_int P w i t
  | inr x => obtain ⟨t, e⟩ := (show ∃ t, u = Value.str x t from r); subst e; exact mixKind_str P w x t
theorem kV_inj {a b : Key} (e : kV a = kV b) : a = b := by
  cases a with
  | inl i => cases b with
    | inl j => have e' : V.int i = V.int j := e; injection e' with e'; rw [e']
    | inr y => exact nomatch (show V.int i = V.str y from e)
  | inr x => cases b with
    | inl j => exact nomatch (show V.str x = V.int j from e)
    | inr y => have e' : V.str x = V.str y := e; injection e' with e'; rw [e']
theorem kVs_inj : ∀ {a b : List Key}, a.map kV = b.map kV → a = b
  | [], [], _ => rfl
  | [], _ :: _, e => by simp at e
  | _ :: _, [], e => by simp at e
  | x :: xs, y :: ys, e => by
    rw [List.map_cons, List.map_cons] at e
    injection e with e1 e2
    rw [kV_inj e1, kVs_inj e2]
theorem items_are {P : Program} {w : World} : ∀ {ks : List Key} {us : List Value}, Vals (ks.map kV) us → ItemsAre (mixKind P w) ks us
  | [], _, r => by rw [List.map_nil] at r; cases r; exact .nil
  | k :: ks, _, r => by
    rw [List.map_cons] at r
    cases r with
    | cons h t => exact .cons (kV_is h) (items_are t)

abbrev KT (H : Hp) : List (List Key × V) → List (List Key × Addr × Value) → Prop := Paired fun p q => p.1 = q.1 ∧ H q.2.1 = some (.tup (p.1.map kV)) ∧ RelV p.2 q.2.2
theorem KT.val {H : Hp} {kvs : List (List Key × V)} {xs : List (List Key × Addr × Value)} (r : KT H kvs xs) (k : List Key) : RelO (valV kvs k) ((atKey xs k).map (·.2)) := by
  induction r with
  | nil => exact True.intro
  | @cons p q ps qs h t ih =>
    obtain ⟨h1, _, h2⟩ := h
    by_cases e : p.1 = k
    · have e' : q.1 = k := h1.symm.trans e
      have b : atKey (q :: qs) k = some q.2 := by simp [atKey, List.find?_cons, e']
      rw [valV_pos e, b]; exact h2
    · have e' : ¬ q.1 = k := fun z => e (h1.trans z)
      have b : atKey (q :: qs) k = atKey qs k := by simp [atKey, List.find?_cons, e']
      rw [valV_neg e, b]; exact ih
theorem KT.repl {H : Hp} {kvs : List (List Key × V)} {xs : List (List Key × Addr × Value)} (r : KT H kvs xs) (k : List Key) {y : V} {u : Value} (ry : RelV y u) :
    KT H (kvs.map fun kv => if kv.1 = k then (kv.1, y) else kv) (xs.map (putAt k u)) := by
  induction r with
  | nil => exact .nil
  | @cons p q ps qs h t ih =>
    rw [List.map_cons, List.map_cons]
    refine .cons ?_ ih
    obtain ⟨h1, h2, h3⟩ := h
    unfold putAt
    by_cases e : p.1 = k
    · rw [if_pos e, if_pos (h1.symm.trans e)]; exact ⟨h1, h2, ry⟩
    · rw [if_neg e, if_neg (fun z => e (h1.trans z))]; exact ⟨h1, h2, h3⟩
theorem KT.put {H : Hp} {kvs : List (List Key × V)} {xs : List (List Key × Addr × Value)} (r : KT H kvs xs) (k : List Key) {b : Addr} {y : V} {u : Value} (hb : H b = some (.tup (k.map kV))) (ry : RelV y u) :
    KT H (putK kvs k y) (storedH xs k b u) := by
  have e : (kvs.any fun kv => decide (kv.1 = k)) = (atKey xs k).isSome := by
    rw [valV_any, (r.val k).isSome_eq, Option.isSome_map]
  unfold putK storedH
  rw [e]
  by_cases q : (atKey xs k).isSome = true
  · rw [if_pos q, if_pos q]; exact r.repl k ry
  · rw [if_neg q, if_neg q]; exact Paired.snoc r ⟨rfl, hb, ry⟩
theorem KT.keeps {H H' : Hp} {kvs : List (List Key × V)} {xs : List (List Key × Addr × Value)} (r : KT H kvs xs) (ht : ∀ b ys, H b = some (.tup ys) → H' b = some (.tup ys)) : KT H' kvs xs :=
  Paired.mapP r fun _ _ z => ⟨z.1, ht _ _ z.2.1, z.2.2⟩

section
variable {P : Program} {w : World} {H : Hp} {h : Heap} {a : Addr}
theorem rd_of {u : HO} (ok : HOk P w H h) (e : Rd H a u) : ObjOk P w H h a u := e.ok ok
theorem dk_rd {kvs : List (Key × V)} (ok : HOk P w H h) (e : Rd H a (.dK kvs)) : kvs.length ≤ sizeLine ∧ (a == sysModules) = false ∧ ∃ vs, KV kvs vs ∧ h.DictOf (mixKind P w) a vs :=
  show ObjOk P w H h a (.dK kvs) from rd_of ok e
theorem dk_of {kvs : List (Key × V)} (ok : HOk P w H h) (e : H a = some (.dK kvs)) : kvs.length ≤ sizeLine ∧ (a == sysModules) = false ∧ ∃ vs, KV kvs vs ∧ h.DictOf (mixKind P w) a vs := dk_rd ok (.inl e)
theorem key_of {ks : List Key} (ok : HOk P w H h) (e : H a = some (.tup (ks.map kV))) : (tupleKind (mixKind P w)).is h ks a := by
  obtain ⟨_, its, r, o, h1, h2, n, h3⟩ := (show ObjOk P w H h a (.tup (ks.map kV)) from ok a _ e)
  exact ⟨o, its.toArray, n, h1, h2, h3, by simpa using items_are r⟩
theorem dt_rd {kvs : List (List Key × V)} (ok : HOk P w H h) (e : Rd H a (.dT kvs)) : kvs.length ≤ sizeLine ∧ (a == sysModules) = false ∧
    ∃ xs, KT H kvs xs ∧ h.DictOfH (tupleKind (mixKind P w)) a xs := by
  obtain ⟨z, y, xs, r, o, es, ep, h1, h2, h3, h4, h5⟩ := (show ObjOk P w H h a (.dT kvs) from rd_of ok e)
  refine ⟨z, y, xs, r, o, es, ep, h1, h2, h3, h4, fun x hx => ?_, h5⟩
  have all : ∀ {l : List (List Key × V)} {m : List (List Key × Addr × Value)}, KT H l m → ∀ x ∈ m, (tupleKind (mixKind P w)).is h x.1 x.2.1 := by
    intro l m q
    induction q with
    | nil => intro x hx; exact nomatch hx
    | @cons p q ps qs hq t ih =>
      intro x hx
      rcases List.mem_cons.mp hx with e | hx
      · subst e
        exact key_of ok (by rw [← hq.1]; exact hq.2.1)
      · exact ih x hx
  exact all r x hx
theorem dt_of {kvs : List (List Key × V)} (ok : HOk P w H h) (e : H a = some (.dT kvs)) : kvs.length ≤ sizeLine ∧ (a == sysModules) = false ∧
    ∃ xs, KT H kvs xs ∧ h.DictOfH (tupleKind (mixKind P w)) a xs := dt_rd ok (.inl e)
end

def DGet (H : Hp) (a : Addr) (y : V) (r : Option V) : Prop :=
  (∃ kvs k, Rd H a (.dK kvs) ∧ y = kV k ∧ r = valV kvs k) ∨ ∃ kvs k b, Rd H a (.dT kvs) ∧ y = .ref b ∧ H b = some (.tup (k.map kV)) ∧ r = valV kvs k
def DPut (H : Hp) (a : Addr) (y v : V) (H' : Hp) : Prop :=
  (∃ kvs k, H a = some (.dK kvs) ∧ y = kV k ∧ kvs.length < sizeLine ∧ H' = upd H a (.dK (putK kvs k v))) ∨
  ∃ kvs k b, H a = some (.dT kvs) ∧ y = .ref b ∧ H b = some (.tup (k.map kV)) ∧ kvs.length < sizeLine ∧ H' = upd H a (.dT (putK kvs k v))
theorem DGet.k {H : Hp} {a : Addr} {kvs : List (Key × V)} {k : Key} (e : H a = some (.dK kvs)) : DGet H a (kV k) (valV kvs k) := .inl ⟨kvs, k, .inl e, rfl, rfl⟩
theorem DGet.t {H : Hp} {a b : Addr} {kvs : List (List Key × V)} {k : List Key} (e : H a = some (.dT kvs)) (eb : H b = some (.tup (k.map kV))) : DGet H a (.ref b) (valV kvs k) := .inr ⟨kvs, k, b, .inl e, rfl, eb, rfl⟩
theorem DPut.k {H : Hp} {a : Addr} {kvs : List (Key × V)} {k : Key} {v : V} (e : H a = some (.dK kvs)) (hl : kvs.length < sizeLine) : DPut H a (kV k) v (upd H a (.dK (putK kvs k v))) := .inl ⟨kvs, k, e, rfl, hl, rfl⟩
theorem DPut.t {H : Hp} {a b : Addr} {kvs : List (List Key × V)} {k : List Key} {v : V} (e : H a = some (.dT kvs)) (eb : H b = some (.tup (k.map kV))) (hl : kvs.length < sizeLine) :
    DPut H a (.ref b) v (upd H a (.dT (putK kvs k v))) := .inr ⟨kvs, k, b, e, rfl, eb, hl, rfl⟩


section
variable {X : Cx} {pins : List (Addr × Obj)} {σ : St} {H : Hp} {s : Shared} {a : Addr} {y v : V} {u r : Value} {o : Option V} {A : Around} {E : Value → Shared → Prop}

theorem Inv.big (I : Inv X pins σ H s) : sysModules < s.heap.objs.size := by
  have h : mainGlobals < s.heap.objs.size := (I.mod.glob.keeps I.bk).lt
  exact Nat.lt_trans (by decide) h

theorem d_in {Q : Value → Shared → Prop} (hu : A.units + 1 < cLine) (I : Inv X pins σ H s) (g : DGet H a y o) (ry : RelV y u) (h : ∀ s', Inv X pins σ H s' → Q (.bool o.isSome) s') :
    wpAny (model X.prog X.w) A (compareOp .In u (.ref a)) Q E s := by
  rcases g with ⟨kvs, k, e, ey, l⟩ | ⟨kvs, k, b, e, ey, eb, l⟩
  · subst ey
    obtain ⟨z, hd, vs, rel, dd⟩ := dk_rd I.hok e
    refine wpAny_in_of (kV_is ry) hd dd.mapOf ?_
    rw [← (rel.val k).isSome_eq, ← l]
    exact h _ (I.tok _)
  · subst ey
    cases (show u = Value.ref b from ry)
    obtain ⟨z, hd, xs, rel, dd⟩ := dt_rd I.hok e
    refine wpAny_in_heap (tupleKind_room_in1 hu) (key_of I.hok eb) hd dd ?_
    have q := (rel.val k).isSome_eq
    rw [Option.isSome_map] at q
    rw [← q, ← l]
    exact h _ (I.tok _)
theorem d_write {h' : Heap} {t' : Nat} {ob : HO} (I : Inv X pins σ H s) (mu : Mut (H a)) (hs : Heap.SameBut a s.heap h') (he : ∃ q, h'.get? a = some q) (new : ObjOk X.prog X.w (upd H a ob) h' a ob) :
    Inv X pins σ (upd H a ob) { s with heap := h', toks := t' } :=
  I.write (x := a) (e := a) mu (.inl rfl) (fun b q hb z => (hs.2 b hb).trans z) he new
theorem dk_new {P : Program} {w : World} {H' : Hp} {h' : Heap} {kvs : List (Key × V)} {vs : List (Key × Value)} (z : kvs.length ≤ sizeLine) (hd : (a == sysModules) = false) (rel : KV kvs vs) (dd : h'.DictOf (mixKind P w) a vs) :
    ObjOk P w H' h' a (.dK kvs) := ⟨z, hd, vs, rel, dd⟩
theorem d_setItem {H' : Hp} {Q : Unit → Shared → Prop} (hu : A.units + 1 < cLine) (I : Inv X pins σ H s) (g : DPut H a y v H') (ry : RelV y u) (rv : RelV v r) (h : ∀ s', Inv X pins σ H' s' → Q () s') :
    wpAny (model X.prog X.w) A (setItem (.ref a) u r) Q E s := by
  rcases g with ⟨kvs, k, e, ey, l, eH⟩ | ⟨kvs, k, b, e, ey, eb, l, eH⟩
  · subst ey eH
    obtain ⟨z, hd, vs, rel, dd⟩ := dk_of I.hok e
    have hz : vs.length ≤ sizeLine := by rw [← rel.length]; exact z
    have hl : (putK kvs k v).length ≤ sizeLine := by have := length_putK kvs k v; omega
    refine wpAny_setItem_pairs (hsz := hz) (kV_is ry) dd fun h' dd' hs => h _ ?_
    have he : ∃ q, h'.get? a = some q := let ⟨q, _, _, hq, _⟩ := dd'; ⟨q, hq⟩
    exact d_write I (by rw [e]; exact True.intro) hs he (dk_new hl hd (rel.put k rv) dd')
  · subst ey eH
    cases (show u = Value.ref b from ry)
    obtain ⟨z, hd, xs, rel, dd⟩ := dt_of I.hok e
    have hz : xs.length ≤ sizeLine := by rw [← Paired.length rel]; exact z
    have hl : (putK kvs k v).length ≤ sizeLine := by have := length_putK kvs k v; omega
    refine wpAny_setItem_heap (hsz := hz) (tupleKind_room_in1 hu) (key_of I.hok eb) dd fun h' dd' hs => h _ ?_
    obtain ⟨q, es, ep, hq, h2, h3, h4, _, h5⟩ := dd'
    refine d_write I (by rw [e]; exact True.intro) hs ⟨q, hq⟩ ⟨hl, hd, _, (rel.put k eb rv).keeps fun c ys ec => ?_, q, es, ep, hq, h2, h3, h4, h5⟩
    rw [upd_ne (ne_of ec e (fun z => nomatch z))]
    exact ec
end

section
variable {X : Cx} {pins : List (Addr × Obj)} {σ : St} {H : Hp} {s : Shared} {a : Addr} {kvs : List (Key × V)} {k : Key} {u : Value} {A : Around} {E : Value → Shared → Prop}
theorem d_len {Q : Value → Shared → Prop} (I : Inv X pins σ H s) (e : Rd H a (.dK kvs)) (h : ∀ t s', Inv X pins σ H s' → Q (.int kvs.length t) s') : wpAny (model X.prog X.w) A (call (.builtin "len") [.ref a]) Q E s := by
  obtain ⟨z, hd, vs, rel, dd⟩ := dk_rd I.hok e
  refine call_len_dict hd dd (by rw [← rel.length]; rw [sizeLine_eq] at z; omega) ?_
  rw [← rel.length]
  exact h _ _ (I.tok _)
end


def sDPut (td ty tv : TE) : TS := fun D σ H => tv σ H fun v H1 => td σ H1 fun x H2 => ty σ H2 fun y H3 => ∃ a H4, x = .ref a ∧ DPut H3 a y v H4 ∧ D.nx σ H4
section
variable {X : Cx} {o i e value : Expr} {pos pos' tpos : Pos} {td ty tv : TE}
theorem ps_dput (hu : X.A.units + 1 < cLine) (ho : PE X o td) (hi : PE X i ty) (hv : PE X value tv) (hs : swapsWith value (some (.Subscript o i pos')) pos.line X.env = pure false) :
    PS X (.Assign [.Subscript o i pos'] value pos) (sDPut td ty tv) := by
  intro pins s σ H D I h
  refine wpAny_Assign_Subscript (thn (hv pins s σ H _ I h) fun r s1 ⟨v, H1, I1, rv, q1⟩ => thn (ho pins s1 σ H1 _ I1 q1) fun u s2 ⟨x, H2, I2, rx, q2⟩ => thn (hi pins s2 σ H2 _ I2 q2) fun iv s3 ⟨y, H3, I3, ry, a, H4, ex, g, q3⟩ => ?_) hs
  subst ex
  obtain rfl : u = Value.ref a := rx
  exact d_setItem hu I3 g ry rv fun s4 I4 => ⟨σ, H4, I4, q3⟩
end


theorem dk_empty {P : Program} {w : World} {H : Hp} (h : Heap) (hb : sysModules < h.objs.size) : ObjOk P w H (h.push { cls := .type "dict", data := .dict #[] }) h.objs.size (.dK []) :=
  ⟨Nat.zero_le _, beq_eq_false_iff_ne.mpr (Ne.symm (Nat.ne_of_lt hb)), [], .nil, Heap.DictOf.new h⟩
theorem dt_empty {P : Program} {w : World} {H : Hp} (h : Heap) (hb : sysModules < h.objs.size) : ObjOk P w H (h.push { cls := .type "dict", data := .dict #[] }) h.objs.size (.dT []) :=
  ⟨Nat.zero_le _, beq_eq_false_iff_ne.mpr (Ne.symm (Nat.ne_of_lt hb)), [], .nil, _, #[], 0, Heap.get?_push_size _ rfl, ⟨rfl, rfl, rfl⟩, rfl, rfl, List.nodup_nil⟩
def tDNewK : TE := fun _ H Q => ∀ p, H p = none → Q (.ref p) (upd H p (.dK []))
def tDNewT : TE := fun _ H Q => ∀ p, H p = none → Q (.ref p) (upd H p (.dT []))
section
variable {X : Cx} {pos : Pos}
theorem pe_dnewK : PE X (.Dict [] [] pos) tDNewK := fun pins s σ H Q I h =>
  wpAny_Dict_empty ⟨.ref s.heap.objs.size, _, I.laid (a := s.heap.objs.size) (o := .dK []) (t' := s.toks) (fun _ _ q => Heap.get?_push_of_some _ q) (Nat.le_refl _) (dk_empty s.heap I.big), rfl, h _ (I.hok.fresh (Nat.le_refl _))⟩
theorem pe_dnewT : PE X (.Dict [] [] pos) tDNewT := fun pins s σ H Q I h =>
  wpAny_Dict_empty ⟨.ref s.heap.objs.size, _, I.laid (a := s.heap.objs.size) (o := .dT []) (t' := s.toks) (fun _ _ q => Heap.get?_push_of_some _ q) (Nat.le_refl _) (dt_empty s.heap I.big), rfl, h _ (I.hok.fresh (Nat.le_refl _))⟩
end

structure M1 (X : Cx) (o : Expr) (m : Str) (apos : Pos) (e : Expr) (cpos : Pos) : Prop where
  base : attributeBase o m X.env (eval o X.env) = eval o X.env
  few : ((backTo cpos (starEach [e] X.env)).all (fun x => !x.1) && (backToKw cpos (keywordEach [] X.env)).all (fun x => x.1.isSome)
    && decide (([e] : List Expr).length + ([] : List Keyword).length + (if ([] : List Keyword).isEmpty then 0 else 1) < 30)) = true
  line : (apos.endLine == cpos.line) = true
  trees : backTo cpos (starEach [e] X.env) = [(false, eval e X.env)]
structure M2 (X : Cx) (o : Expr) (m : Str) (apos : Pos) (e f : Expr) (cpos : Pos) : Prop where
  base : attributeBase o m X.env (eval o X.env) = eval o X.env
  few : ((backTo cpos (starEach [e, f] X.env)).all (fun x => !x.1) && (backToKw cpos (keywordEach [] X.env)).all (fun x => x.1.isSome)
    && decide (([e, f] : List Expr).length + ([] : List Keyword).length + (if ([] : List Keyword).isEmpty then 0 else 1) < 30)) = true
  line : (apos.endLine == cpos.line) = true
  trees : backTo cpos (starEach [e, f] X.env) = [(false, eval e X.env), (false, eval f X.env)]

def IsD (H : Hp) (a : Addr) : Prop := (∃ kvs, Rd H a (.dK kvs)) ∨ ∃ kvs, Rd H a (.dT kvs)
theorem isD_at {X : Cx} {pins : List (Addr × Obj)} {σ : St} {H : Hp} {s : Shared} {a : Addr} (I : Inv X pins σ H s) (d : IsD H a) :
    s.TypeIs (.ref a) "dict" ∧ (∀ b, Value.ref a = .ref b → ∃ ob, s.heap.get? b = some ob ∧ ob.dict = none) ∧ (a == sysModules) = false := by
  rcases d with ⟨kvs, e⟩ | ⟨kvs, e⟩
  · obtain ⟨_, hd, vs, _, dd⟩ := dk_rd I.hok e
    refine ⟨dd.typeIs, fun b q => ?_, hd⟩
    cases q
    obtain ⟨ob, _, _, h1, h2, _⟩ := dd
    exact ⟨ob, h1, h2.2.1⟩
  · obtain ⟨_, hd, xs, _, dd⟩ := dt_rd I.hok e
    refine ⟨dd.typeIs, fun b q => ?_, hd⟩
    cases q
    obtain ⟨ob, _, _, h1, h2, _⟩ := dd
    exact ⟨ob, h1, h2.2.1⟩

section
variable {X : Cx} {pins : List (Addr × Obj)} {σ : St} {H : Hp} {s : Shared} {a : Addr} {y d : V} {u r : Value} {o : Option V} {A : Around} {E : Value → Shared → Prop}
theorem d_get1 {Q : Value → Shared → Prop} (hu : A.units + 1 < cLine) (I : Inv X pins σ H s) (g : DGet H a y o) (ry : RelV y u) (h : ∀ w' s', Inv X pins σ H s' → RelV (o.getD .non) w' → Q w' s') :
    wpAny (model X.prog X.w) A (call (.builtin "dict.get") [.ref a, u]) Q E s := by
  rcases g with ⟨kvs, k, e, ey, l⟩ | ⟨kvs, k, b, e, ey, eb, l⟩
  · subst ey
    obtain ⟨z, hd, vs, rel, dd⟩ := dk_rd I.hok e
    refine call_meetsIn PySem.F.slot_dict_get dd.typeIs PySem.F.entry_dict_get (PySem.F.args_dict_get_2 _ _) (meets_dict_get (mixKind X.prog X.w) a (kV_is ry) hd) ⟨_, dd.mapOf, h _ _ (I.tok _) ?_⟩
    rw [l]
    exact (rel.val k).getD rfl
  · subst ey
    cases (show u = Value.ref b from ry)
    obtain ⟨z, hd, xs, rel, dd⟩ := dt_rd I.hok e
    refine call_meetsIn PySem.F.slot_dict_get dd.typeIs PySem.F.entry_dict_get (PySem.F.args_dict_get_2 _ _) (meetsH_dict_get (tupleKind (mixKind X.prog X.w)) a b hd) ⟨tupleKind_room_in1 hu, k, xs, key_of I.hok eb, dd, h _ _ (I.tok _) ?_⟩
    rw [l]
    exact (rel.val k).getD rfl
end

def tDGet1 (td ty : TE) : TE := fun σ H Q => td σ H fun x H1 => ∃ a, x = .ref a ∧ IsD H1 a ∧ ty σ H1 fun y H2 => ∃ o, DGet H2 a y o ∧ Q (o.getD .non) H2
section
variable {X : Cx} {o e f : Expr} {apos cpos : Pos} {td ty tx : TE}
theorem pe_dget1 (hu : X.A.units + 1 < cLine) (ho : PE X o td) (he : PE X e ty) (m : M1 X o "get" apos e cpos) : PE X (.Call (.Attribute o "get" apos) [e] [] cpos) (tDGet1 td ty) := by
  intro pins s σ H Q I h
  refine wpAny_Call_method m.base m.few m.line PySem.F.plainAttrs_dict PySem.F.slot_dict_get PySem.F.type_dict_get (thn (ho pins s σ H _ I h) fun u s1 ⟨x, H1, I1, rx, a, ex, d, q1⟩ => ?_)
  subst ex
  obtain rfl : u = Value.ref a := rx
  obtain ⟨t1, t2, _⟩ := isD_at I1 d
  refine ⟨t1, t2, ?_⟩
  rw [m.trees]
  refine Calls.callWith_builtin rfl (Calls.evalArgs_plain (Calls.spliced_cons (thn (he pins s1 σ H1 _ I1 q1) fun iv s2 ⟨y, H2, I2, ry, ov, g, q2⟩ => Calls.spliced_nil ?_)))
  exact d_get1 hu I2 g ry fun w' s3 I3 rw' => ⟨_, H2, I3, rw', q2⟩
end

section
variable {X : Cx} {pins : List (Addr × Obj)} {σ : St} {H : Hp} {s : Shared} {a : Addr} {kvs : List (Key × V)} {A : Around} {E : Value → Shared → Prop}
end


section
variable {X : Cx} {pins : List (Addr × Obj)} {σ : St} {H : Hp} {s : Shared} {a : Addr} {y : V} {u : Value} {A : Around} {E : Value → Shared → Prop}
end
end L2


namespace Att
open PySem PySem.W PySem.Calls PyProof.Rows

theorem ints_of_wellAll {P : Params} {h : Heap} : ∀ (ns : List Int) (vs : List Value), WellAll P h vs (ns.map WData.int) → IntsAre vs ns := by
  intro ns
  induction ns with
  | nil =>
    intro vs w
    rw [List.map_nil] at w
    cases w
    exact .nil
  | cons n ns ih =>
    intro vs w
    rw [List.map_cons] at w
    cases w with
    | cons a b =>
      cases a
      exact .cons _ _ (ih _ b)

theorem script_of {l : OpenLaw} {n : Nat} (hn : l.most = some n) {P : Params} {h : Heap} {args : List WData} {vals : List Value}
    (hpre : l.row.toRowW.claim.pre args = true) (hwl : WellAll P h vals args) :
    ∃ a vs ns, vals = [Value.ref a] ∧ args = [WData.list (ns.map WData.int)] ∧ h.get? a = some { cls := .type "list", data := .seq vs.toArray } ∧ IntsAre vs ns ∧ ns.length ≤ n := by
  have hsh : WShape.hasAll [] args [.list .int] = true := (pre_splitW hpre).1
  have hc : l.pre.holds [] { args := args } = true := (pre_splitW hpre).2
  obtain ⟨d, r, rfl, h1, h2⟩ := hasAllW_cons hsh
  obtain rfl := hasAllW_nil h2
  obtain ⟨xs, rfl, h3⟩ := hasW_list h1
  obtain ⟨ns, rfl⟩ := items_int h3
  have hlen : ns.length ≤ n := by
    unfold OpenLaw.pre at hc
    have h4 : (WTm.not (.lt (.lit (.int (n : Int))) (.len (.arg 0)))).holds [] { args := [.list (ns.map .int)] } = true := by
      have h4 := (holds_andW hc).1
      rw [hn] at h4
      exact h4
    have h5 := condW_of h4 (w_not (w_lt w_lit (w_len_list (w_arg rfl))))
    rw [List.length_map] at h5
    refine Nat.le_of_not_lt fun q => ?_
    have q' : (n : Int) < ((ns.length : Nat) : Int) := by omega
    first
      | (rw [decide_eq_true q'] at h5; exact absurd h5 (by decide))
      | (simp at h5; omega)
  cases hwl with
  | cons w1 w2 =>
    cases w2
    cases w1 with
    | list ho hall => exact ⟨_, _, ns, rfl, rfl, ho, ints_of_wellAll ns _ hall, hlen⟩

theorem post_true (l : OpenLaw) (args : List WData) : l.row.toRowW.claim.post args (.bool true) args = true :=
  postW_of (r := l.row.toRowW) (X := (true == true))
    (show WShape.has [] (.bool true) .bool = true by first | rfl | decide | simp [WShape.has, WShape.arms, WShape.armsAll])
    (show (WTm.eq .res (.lit (.bool true))).value [] { args := args, res := some (.bool true), after := args } = some (.bool (true == true)) from w_eq_bool (w_res rfl) w_lit) rfl

theorem attach_call {l : OpenLaw} {n : Nat} {q : Program} {loose : List Str} {XP : (Str → Option Value) → Heap → Prop} {YP : World → Heap → Prop} {d : DefRec}
    (hn : l.most = some n) (hdf : d.params.defaults = [])
    (call : ∀ (w : World) (s₀ s₁ : Shared) (mg mb : Str → Option Value) (fa : Addr) (o : Obj) (pm cd doc : Value) (a : Addr) (vs : List Value) (ns : List Int),
      Ground q loose [] XP w s₀ mg mb s₁.heap → YP w s₁.heap →
      s₁.heap.get? fa = some o → o.data = .func (docDef d.name d.params d.body d.scope pm cd doc) → s₁.heap.CodeRec cd d.name → mg d.name = some (.ref fa) →
      s₁.heap.get? a = some { cls := .type "list", data := .seq vs.toArray } → IntsAre vs ns → ns.length ≤ n → s₁.gens = #[] →
      codeAny (model l.prog w) callerA (.call (.ref fa) ⟨[.ref a], []⟩) (fun r s' => r = .ok (.ret (.bool true)) ∧ OldK s₁.heap s'.heap ∧ s'.os = s₁.os ∧ AllBare s'.gens) s₁) :
    WalkO q loose XP YP l.row.toRowW d [] (fun f vs => PySem.call f vs) := by
  intro w s₀ s₁ mg mb G Y fa o pm cd doc dV kV ho hd hcd hD hmg hg args vals as hpre hlay hrd hwl hlo
  obtain rfl : dV = .none := Dflts.none hD hdf
  obtain rfl : kV = .none := Dflts.noKw hD
  obtain ⟨a, vs, ns, rfl, rfl, hobj, hints, hlen⟩ := script_of hn hpre hwl
  refine enter_call (codeAny_mono (call w s₀ s₁ mg mb fa o pm cd doc a vs ns G Y ho (fd_plain hd) hcd hmg hobj hints hlen hg) fun r s' hq => ?_)
  obtain ⟨rfl, h2, h3, h4⟩ := hq
  exact ⟨.inl ⟨.bool true, .bool true, [], rfl, fun _ => rfl, .bool true, post_true l _, fun _ => ⟨List.Pairwise.nil, fun _ hm => (nomatch hm)⟩⟩, h2, h3, h4⟩

section
variable {prog : Program} {w : World} {A : Around} {E : Value → Shared → Prop} {s : Shared} {K : Frag}

def ledger (h : Heap) (L d : Addr) : List (Addr × Obj) := (List.range h.objs.size).filterMap fun a => if a = L ∨ a = d then none else (h.get? a).map fun o => (a, o)
end
end Att

namespace L2
open PySem PySem.Spec PyProof.Rows

theorem vals_ints : ∀ {vs : List Value} {ns : List Int}, IntsAre vs ns → Vals (ns.map V.int) vs
  | _, _, .nil => .nil
  | _, _, .cons n t h => .cons ⟨t, rfl⟩ (vals_ints h)

end L2

namespace L2
open PySem PySem.Spec PyProof.Rows

end L2

namespace L2
open PySem PySem.Spec PyProof.Rows

def inClass (s : Stmt) (j : Nat) : Stmt := match s with
  | .ClassDef _ _ _ body _ _ _ _ _ _ _ => body.getD j (.Pass ⟨0, 0, 0, 0⟩)
  | _ => .Pass ⟨0, 0, 0, 0⟩
def defArgs (s : Stmt) : Arguments := match s with
  | .FunctionDef _ a _ _ _ _ _ _ _ _ => a
  | _ => { posonlyargs := [], args := [], vararg := none, kwonlyargs := [], kw_defaults := [], kwarg := none, defaults := [] }
def defBody (s : Stmt) : List Stmt := match s with
  | .FunctionDef _ _ b _ _ _ _ _ _ _ => b
  | _ => []
def defScope (s : Stmt) : Scope := match s with
  | .FunctionDef _ _ _ _ _ _ sc _ _ _ => sc
  | _ => { kind := .function, names := [], isGenerator := false, isCoroutine := false }

abbrev CX0 : CXT := fun _ _ _ _ _ _ => False
abbrev E0 : St → XK := fun _ _ _ _ => False
structure Fun (K : PySem.W.Frag) (x qual : Str) (st : Stmt) (f : Addr) (fd : FuncData) : Prop where
  ex : ∃ (oc : Value) (od : Option Addr) (kV doc pm : Value) (an : Option Addr) (cdv ct : Value) (osl : Array (Option Value)),
    fd = PySem.W.fnOf x qual (defArgs st) (defBody st) (defScope st) .none kV doc pm an cdv ct ∧ K.lookup f = some ⟨oc, od, .func fd, osl⟩ ∧ PySem.W.codeIn K cdv qual = true
  kp : PySem.W.keepIn K (.ref f) = true
section
variable {P : Program} {w : World} {K : PySem.W.Frag} {mg : Str → Option Value} {base : Heap}
theorem Fun.ok {x qual : Str} {st : Stmt} {f : Addr} {fd : FuncData} {N ps : List Str} {k : Nat} {sp : Sp} (F : Fun K x qual st f fd) (S : FnScope N ps (defScope st)) (len : ∀ vs H Q E, sp vs H Q E → vs.length = ps.length)
    (hbody : ∀ (cdv : Value) (A : Around) (outer : List Env) (s : Shared) (H : Hp) (vs : List V) (Q : VK) (E : XK), Room k (A.deeper (envOfC qual (defScope st) s.heap.objs.size f cdv)) → sp vs H Q E →
      ∃ t, PSs (cxOf CX0 P w K mg base N qual (defScope st) f cdv A outer s H E).nox (defBody st) t ∧ t { nx := fun _ H' => Q .non H', rt := Q } (start N vs) H) : FnOk P w K mg base CX0 (k + 1) f fd ps sp := by
  obtain ⟨oc, od, kV, doc, pm, an, cdv, ct, osl, rfl, lk, hcd⟩ := F.ex
  refine fn_of lk hcd S len fun A outer s H vs Q E hr hsp => ?_
  obtain ⟨t, h, q⟩ := hbody cdv A outer s H vs Q E hr hsp
  exact ⟨t, h.nox, q⟩
theorem Fun.binds {x qual : Str} {st : Stmt} {f : Addr} {fd : FuncData} {ps : List Str} (F : Fun K x qual st f fd)
    (h : ∀ (kV doc pm : Value) (an : Option Addr) (cdv ct : Value) (us : List Value), us.length = ps.length → bindArgs (PySem.W.fnOf x qual (defArgs st) (defBody st) (defScope st) .none kV doc pm an cdv ct) ⟨us, []⟩ = pure (ps.zip us)) : Binds K fd ps [] := by
  obtain ⟨oc, od, kV, doc, pm, an, cdv, ct, osl, rfl, lk, hcd⟩ := F.ex
  exact .all (h kV doc pm an cdv ct)
theorem fun_mk {x qual : Str} {st : Stmt} {f : Addr} {oc : Value} {od an : Option Addr} {osl : Array (Option Value)} {kV doc pm cdv ct : Value} (l : K.lookup f = some ⟨oc, od, .func (PySem.W.fnOf x qual (defArgs st) (defBody st) (defScope st) .none kV doc pm an cdv ct), osl⟩)
    (c : PySem.W.codeIn K cdv qual = true) (k : PySem.W.keepIn K (.ref f) = true) : Fun K x qual st f (PySem.W.fnOf x qual (defArgs st) (defBody st) (defScope st) .none kV doc pm an cdv ct) := ⟨⟨oc, od, kV, doc, pm, an, cdv, ct, osl, rfl, l, c⟩, k⟩
end
theorem hu_of {A : Around} {k : Nat} (hr : Room k A) : A.units + 1 < cLine := Nat.lt_of_le_of_lt (Nat.add_le_add_left (by decide : 1 ≤ 64) _) hr.units
section
variable {X : Cx}
theorem pv (i : Nat) {x : Str} {pos : Pos} (hN : X.N[i]? = some x := by rfl) (hv : Vis X.env.scope x := by first | exact Or.inl rfl | exact Or.inr (Or.inl rfl) | exact Or.inr (Or.inr rfl)) (hd : (x == ("__debug__" : Str)) = false := by decide)
    (hcd : (x == ("__classdict__" : Str)) = false := by decide) : PE X (.Name x pos) (tVar i) := pe_var hN hv hd hcd
end

def Same (H H' : Hp) : Prop := ∀ b o, H b = some o → H' b = some o
theorem Same.refl (H : Hp) : Same H H := fun _ _ h => h
theorem Same.trans {H H1 H2 : Hp} (a : Same H H1) (b : Same H1 H2) : Same H H2 := fun c o h => b c o (a c o h)
theorem Same.free {H H' : Hp} (e : Same H H') {l : Addr} (h : H' l = Option.none) : H l = Option.none := by
  cases q : H l with
  | none => rfl
  | some o =>
    rw [e l o q] at h
    cases h
theorem Same.seq {K : PySem.W.Frag} {H H' : Hp} {a : Addr} {xs : List V} (e : Same H H') (h : SqL K H a xs) : SqL K H' a xs := by
  rcases h with (h | ⟨o, h⟩) | h
  · exact .inl (.inl (e _ _ h))
  · exact .inl (.inr ⟨o, e _ _ h⟩)
  · exact .inr h

end L2

namespace L2
open PySem PySem.Spec PyProof.Rows
section
variable {κ : Type} [DecidableEq κ]
theorem nd_snoc : ∀ {l : List κ} {k : κ}, l.Nodup → ¬ k ∈ l → (l ++ [k]).Nodup
  | [], k, _, _ => by simp
  | a :: r, k, h, hk => by
    obtain ⟨h1, h2⟩ := List.nodup_cons.mp h
    show (a :: (r ++ [k])).Nodup
    refine List.nodup_cons.mpr ⟨fun m => ?_, nd_snoc h2 fun m => hk (List.mem_cons.mpr (Or.inr m))⟩
    rcases List.mem_append.mp m with q | q
    · exact h1 q
    · exact hk (List.mem_cons.mpr (Or.inl (List.mem_singleton.mp q).symm))
end
end L2
namespace L2
open PySem PySem.Spec PyProof.Rows
def HandIn (o : Option Value) (H : Hp) : Prop := o = none ∨ ∃ ea φ, o = some (Value.ref ea) ∧ H ea = some (HO.ext φ) ∧ ∀ h : Heap, φ h → ∃ ob vs, h.get? ea = some ob ∧ ob.data = .fields vs ∧ vs[2]? = some Value.none
structure RoomN (k : Nat) (A : Around) : Prop where
  dp : A.depth + 3 * k + 5 < recursionLimit
  un : A.units + 16 * k + 200 < cLine
theorem RoomN.mono {j k : Nat} {A : Around} (r : RoomN k A) (h : j ≤ k) : RoomN j A := ⟨by have := r.dp; omega, by have := r.un; omega⟩
theorem RoomN.deeper {k : Nat} {A : Around} (r : RoomN (k + 1) A) (env : Env) : RoomN k (A.deeper env) := ⟨by have := r.dp; show A.depth + 1 + 3 * k + 5 < _; omega, by have := r.un; show A.units + 3 + 16 * k + 200 < _; omega⟩
theorem RoomN.depth {k : Nat} {A : Around} (r : RoomN k A) : A.depth < recursionLimit := by have := r.dp; omega
theorem RoomN.units0 {k : Nat} {A : Around} (r : RoomN k A) : A.units < cLine := by have := r.un; omega
theorem Room.n {k : Nat} {A : Around} (r : Room k A) : RoomN k A := ⟨r.dp, r.un⟩
structure FnOkN (P : Program) (w : World) (K : PySem.W.Frag) (mg : Str → Option Value) (base : Heap) (CX : CXT) (k : Nat) (f : Addr) (fd : FuncData) (ps : List Str) (sp : Sp) : Prop where
  len : ∀ vs H Q E, sp vs H Q E → vs.length = ps.length
  run : ∀ (A : Around) (outer : List Env) (s : Shared) (H : Hp) (args : Args) (us : List Value) (vs : List V) (Q : VK) (E : XK), RoomN k A → HandIn A.handled H → Env0 P w K mg base A outer s H → BindsTo s fd args (ps.zip us) → Vals vs us → sp vs H Q E →
    codeAny (model P w) A (.call (.ref f) args) (CR CX outer P w H s Q E) s
section
variable {X : Cx} {CX : CXT} {k : Nat} {f C : Addr} {fd : FuncData} {ps : List Str} {sp : Sp} {dvs : List V} {ds : List Value} {E : St → XK} {x m : Str} {p pos apos : Pos} {e o : Expr} {es : List Expr} {ta : TE} {t : TA}
end
end L2
set_option Elab.async false
set_option linter.all false
set_option maxRecDepth 100000
set_option maxHeartbeats 4000000
set_option exponentiation.threshold 2000
namespace Mk
def cop (m n : Int) : Bool := decide (Int.gcd n m = 1)
def dif (ws : List Int) : List Int := (ws.zip (ws.drop 1)).map fun p => p.2 - p.1
def safe (m : Int) (ws : List Int) : Bool := (ws ++ dif ws).all (cop m)
theorem gcd_step (a b : Int) : Int.gcd b (a % b) = Int.gcd a b := by
  rw [Int.emod_def, Int.gcd_sub_mul_left_right, Int.gcd_comm]
theorem safe_iff {m : Int} {ws : List Int} : safe m ws = true ↔ (∀ w ∈ ws, cop m w = true) ∧ ∀ (j : Nat) a b, ws[j]? = some a → ws[j + 1]? = some b → cop m (b - a) = true := by
  unfold safe
  rw [List.all_append, Bool.and_eq_true, List.all_eq_true, List.all_eq_true]
  refine and_congr Iff.rfl ⟨fun h j a b ha hb => ?_, fun h x hx => ?_⟩
  · refine h (b - a) (List.mem_map.mpr ⟨(a, b), ?_, rfl⟩)
    refine List.mem_of_getElem? (i := j) ?_
    rw [List.getElem?_zip_eq_some]
    exact ⟨ha, by rw [List.getElem?_drop, Nat.add_comm]; exact hb⟩
  · unfold dif at hx
    obtain ⟨⟨a, b⟩, hp, rfl⟩ := List.mem_map.mp hx
    obtain ⟨j, hj⟩ := List.getElem?_of_mem hp
    rw [List.getElem?_zip_eq_some] at hj
    exact h j a b hj.1 (by have := hj.2; rw [List.getElem?_drop, Nat.add_comm] at this; exact this)
def big : Int := 314159265358979323846264338327950288419716939937510582097494
def ofN (n : Nat) : List Int := (List.range n).map fun (k : Nat) => (k : Int)
theorem ofN_len (n : Nat) : (ofN n).length = n := by simp [ofN]
theorem mem_ofN {n : Nat} {x : Int} : x ∈ ofN n ↔ 0 ≤ x ∧ x < n := by
  unfold ofN
  rw [List.mem_map]
  constructor
  · rintro ⟨k, hk, rfl⟩
    have := List.mem_range.mp hk
    omega
  · rintro ⟨h1, h2⟩
    exact ⟨x.toNat, List.mem_range.mpr (by omega), by omega⟩
def cand (m : Int) (found : List Int) : List Int := (ofN m.toNat).filter fun w => cop m w && (found.isEmpty || cop m (w - found.getLastD 0))
def pool (m : Int) (found : List Int) : List Int := if cand m found = [] then ofN m.toNat else cand m found
def wtsGo (m : Int) : Nat → Int → List Int → List Int
  | 0, _, found => found
  | n + 1, c, found => wtsGo m n (c / 7) (found ++ [(pool m found).getD (c % ((pool m found).length : Int)).toNat 0])
def wts (c m : Int) (n : Nat) : List Int := wtsGo m n c []
theorem pool_mem {m : Int} {found : List Int} {x : Int} (h : x ∈ pool m found) : 0 ≤ x ∧ x < m := by
  unfold pool at h
  split at h
  · have := mem_ofN.mp h; omega
  · have := mem_ofN.mp (List.mem_filter.mp h).1; omega
theorem pool_pos {m : Int} (hm : 0 < m) (found : List Int) : 0 < (pool m found).length := by
  unfold pool
  split
  · rw [ofN_len]; omega
  · rename_i h
    exact List.length_pos_iff.mpr h
theorem pick_lt {m : Int} (hm : 0 < m) (found : List Int) (c : Int) : 0 ≤ c % ((pool m found).length : Int) ∧ c % ((pool m found).length : Int) < ((pool m found).length : Int) := by
  have := pool_pos hm found
  exact ⟨Int.emod_nonneg _ (by omega), Int.emod_lt_of_pos _ (by omega)⟩
theorem pick_mem {m : Int} (hm : 0 < m) (found : List Int) (c : Int) : (pool m found).getD (c % ((pool m found).length : Int)).toNat 0 ∈ pool m found := by
  obtain ⟨h1, h2⟩ := pick_lt hm found c
  have h3 : (c % ((pool m found).length : Int)).toNat < (pool m found).length := by omega
  rw [List.getD_eq_getElem?_getD, List.getElem?_eq_getElem h3]
  exact List.getElem_mem h3
theorem wtsGo_len (m : Int) : ∀ (n : Nat) (c : Int) (found : List Int), (wtsGo m n c found).length = found.length + n
  | 0, _, _ => rfl
  | n + 1, c, found => by
    unfold wtsGo
    rw [wtsGo_len m n, List.length_append, List.length_singleton]; omega
theorem wts_len (c m : Int) (n : Nat) : (wts c m n).length = n := by unfold wts; rw [wtsGo_len]; simp
theorem wtsGo_mem {m : Int} (hm : 0 < m) : ∀ (n : Nat) (c : Int) (found : List Int), (∀ x ∈ found, 0 ≤ x ∧ x < m) → ∀ x ∈ wtsGo m n c found, 0 ≤ x ∧ x < m
  | 0, _, _, h => h
  | n + 1, c, found, h => by
    unfold wtsGo
    refine wtsGo_mem hm n _ _ fun x hx => ?_
    rcases List.mem_append.mp hx with hx | hx
    · exact h x hx
    · rw [List.mem_singleton] at hx; subst hx; exact pool_mem (pick_mem hm found c)
theorem wts_mem {m : Int} (hm : 0 < m) (c : Int) (n : Nat) : ∀ x ∈ wts c m n, 0 ≤ x ∧ x < m := wtsGo_mem hm n c [] (fun _ h => by cases h)
def digs (m : Int) : Nat → Int → List Int
  | 0, _ => []
  | n + 1, c => c % m :: digs m n (c / 31)
def w1 (n m : Int) : List Int := wts (n / 100) m (3 + n % 6).toNat
def w2 (n m : Int) : List Int := if n / 6 % 4 = 1 then (w1 n m).set (n / 24 % ((w1 n m).length : Int)).toNat (n / 200 % m) else w1 n m
def w3 (n m : Int) : List Int := if n / 6 % 4 = 2 then digs m (w2 n m).length (n / 100) else w2 n m
def altAt (k : Nat) : Int := if k % 2 = 0 then 1 else 2
def alt (n : Nat) : List Int := (List.range n).map altAt
theorem cop_small : ∀ m : Nat, m < 27 → 3 ≤ m → cop (m : Int) 0 = false ∧ cop (m : Int) 1 = true ∧ cop (m : Int) (-1) = true ∧ cop (m : Int) 2 = decide (m % 2 = 1) := by decide +kernel
def fits (m : Int) (ws : List Int) : List Int := (ofN m.toNat).filter fun w => safe m (ws.drop (ws.length - 1) ++ [w])
end Mk

namespace Mk
def dot : List Int → List Int → Int
  | a :: r, b :: t => a * b + dot r t
  | _, _ => 0
def good (m : Int) (ws : List Int) (r : Int) (ps : List Int) : Bool := decide ((dot ws ps - r) % m = 0)
end Mk

namespace Mk
end Mk

namespace Mk
theorem safe_snoc {m x : Int} {l : List Int} (h : safe m l = true) (hx : cop m x = true) (hl : l = [] ∨ cop m (x - l.getLastD 0) = true) : safe m (l ++ [x]) = true := by
  rw [safe_iff] at h ⊢
  refine ⟨fun w hw => ?_, fun j a b ha hb => ?_⟩
  · rcases List.mem_append.mp hw with hw | hw
    · exact h.1 w hw
    · rw [List.mem_singleton.mp hw]; exact hx
  · by_cases h1 : j + 1 < l.length
    · rw [List.getElem?_append_left (by omega)] at ha
      rw [List.getElem?_append_left h1] at hb
      exact h.2 j a b ha hb
    · have hj := (List.getElem?_eq_some_iff.mp hb).1
      rw [List.length_append, List.length_singleton] at hj
      have e : j + 1 = l.length := by omega
      rw [List.getElem?_append_left (by omega)] at ha
      rw [List.getElem?_append_right (by omega), e, Nat.sub_self] at hb
      have hne : l ≠ [] := fun e2 => by rw [e2] at e; simp at e
      have e3 : l.getLastD 0 = a := by
        rw [List.getLastD_eq_getLast?, List.getLast?_eq_getElem?, show l.length - 1 = j by omega, ha]; rfl
      have e4 : x = b := by simpa using hb
      subst e4
      rw [← e3]
      exact hl.resolve_left hne
theorem next_odd : ∀ m : Nat, m < 27 → 3 ≤ m → m % 2 = 1 → ∀ w : Nat, w < m → cop (m : Int) (w : Int) = true → (cop (m : Int) (((2 * w) % m : Nat) : Int) && cop (m : Int) ((((2 * w) % m : Nat) : Int) - (w : Int))) = true := by decide +kernel
theorem cand_odd {m : Int} (h3 : 3 ≤ m) (h26 : m ≤ 26) (ho : m % 2 = 1) {l : List Int} (hb : ∀ x ∈ l, 0 ≤ x ∧ x < m) (hc : ∀ x ∈ l, cop m x = true) : cand m l ≠ [] := by
  obtain ⟨M, rfl⟩ := Int.eq_ofNat_of_zero_le (show 0 ≤ m by omega)
  intro e
  unfold cand at e
  rw [List.filter_eq_nil_iff] at e
  by_cases hl : l = []
  · subst hl
    exact e 1 (mem_ofN.mpr ⟨by decide, by omega⟩) (by rw [(cop_small M (by omega) (by omega)).2.1]; rfl)
  · have hm : l.getLastD 0 ∈ l := by
      rw [List.getLastD_eq_getLast?, List.getLast?_eq_some_getLast hl]
      exact List.getLast_mem hl
    have h1 := hb _ hm
    have h2 := hc _ hm
    generalize l.getLastD 0 = w at e h1 h2
    obtain ⟨W, rfl⟩ := Int.eq_ofNat_of_zero_le h1.1
    have h4 := next_odd M (by omega) (by omega) (by omega) W (by omega) h2
    rw [Bool.and_eq_true] at h4
    refine e (((2 * W) % M : Nat) : Int) (mem_ofN.mpr ⟨by omega, ?_⟩) ?_
    · have := Nat.mod_lt (2 * W) (show 0 < M by omega)
      omega
    · rw [h4.1, h4.2, Bool.or_true]; rfl
theorem wtsGo_safe {m : Int} (h3 : 3 ≤ m) (h26 : m ≤ 26) (ho : m % 2 = 1) : ∀ (n : Nat) (c : Int) (l : List Int), (∀ x ∈ l, 0 ≤ x ∧ x < m) → safe m l = true → safe m (wtsGo m n c l) = true
  | 0, _, _, _, h => h
  | n + 1, c, l, hb, h => by
    unfold wtsGo
    have hp := pick_mem (show 0 < m by omega) l c
    generalize (pool m l).getD (c % ((pool m l).length : Int)).toNat 0 = x at hp
    have hx := pool_mem hp
    have hc := cand_odd h3 h26 ho hb (safe_iff.mp h).1
    unfold pool at hp
    rw [if_neg hc] at hp
    unfold cand at hp
    have hq := (List.mem_filter.mp hp).2
    rw [Bool.and_eq_true, Bool.or_eq_true] at hq
    refine wtsGo_safe h3 h26 ho n _ _ (fun y hy => ?_) (safe_snoc h hq.1 ?_)
    · rcases List.mem_append.mp hy with hy | hy
      · exact hb y hy
      · rw [List.mem_singleton.mp hy]; exact hx
    · rcases hq.2 with e | e
      · exact .inl (List.isEmpty_iff.mp e)
      · exact .inr e
theorem wts_safe {m : Int} (h3 : 3 ≤ m) (h26 : m ≤ 26) (ho : m % 2 = 1) (c : Int) (n : Nat) : safe m (wts c m n) = true := wtsGo_safe h3 h26 ho n c [] (fun _ h => by cases h) rfl
section
variable {m r k : Int} {ws : List Int} (h0 : 0 < m) (h26 : m ≤ 26) (hm : ∀ x ∈ ws, 0 ≤ x ∧ x < m) (hs : safe m ws = true) (hl : 1 ≤ ws.length)
include h0 h26 hm hs hl
omit h26 hm hs hl in
end
end Mk

namespace L2
open PySem PySem.Spec PyProof.Rows
def clo (cells : List (Str × Addr)) : List (Str × NameKind) → List (Str × Addr) → Option (List (Str × Addr))
  | [], acc => some acc
  | (n, k) :: r, acc => if k == .free then (match cells.lookup n with | some c => clo cells r ((n, c) :: acc) | none => none) else clo cells r acc
theorem clo_pure {env : Env} : ∀ (names : List (Str × NameKind)) (acc cl : List (Str × Addr)), clo env.cells names acc = some cl →
    (forIn names acc fun (x : Str × NameKind) (cs : List (Str × Addr)) => (if x.2 == .free then do let c ← cellOf env x.1; pure (ForInStep.yield ((x.1, c) :: cs)) else pure (ForInStep.yield cs) : Sem (ForInStep (List (Str × Addr))))) = pure cl
  | [], acc, cl, h => by
    have e : acc = cl := Option.some.inj h
    subst e; rfl
  | (n, k) :: r, acc, cl, h => by
    rw [List.forIn_cons]
    unfold clo at h
    by_cases hk : (k == NameKind.free) = true
    · rw [if_pos hk] at h
      cases hc : env.cells.lookup n with
      | none => rw [hc] at h; cases h
      | some c =>
        rw [hc] at h
        have ih := clo_pure (env := env) r ((n, c) :: acc) cl h
        have e1 : cellOf env n = pure c := by unfold cellOf; rw [hc]
        simp only [hk, if_true, e1, pure_bind]
        exact ih
    · rw [if_neg hk] at h
      have ih := clo_pure (env := env) r acc cl h
      simp only [hk, if_false, pure_bind, Bool.false_eq_true]
      exact ih
theorem closureFor_clo {scope : Scope} {env : Env} {cl : List (Str × Addr)} (h : clo env.cells scope.names [] = some cl) : closureFor scope env = pure cl := by
  have e := clo_pure (env := env) scope.names [] cl h
  unfold closureFor
  simp only [bind_pure]
  first
    | exact e
    | (simp only [bind_pure_comp, map_pure] at e ⊢; exact e)
    | (rw [show (fun (x : Str × NameKind) (r : List (Str × Addr)) => _) = _ from rfl]; exact e)
theorem clo_sub {cells : List (Str × Addr)} : ∀ (names : List (Str × NameKind)) (acc cl : List (Str × Addr)), clo cells names acc = some cl →
    (∀ x c, acc.lookup x = some c → cells.lookup x = some c) → ∀ x c, cl.lookup x = some c → cells.lookup x = some c
  | [], acc, cl, h, ha => by
    have e : acc = cl := Option.some.inj h
    subst e; exact ha
  | (n, k) :: r, acc, cl, h, ha => by
    unfold clo at h
    by_cases hk : (k == NameKind.free) = true
    · rw [if_pos hk] at h
      cases hc : cells.lookup n with
      | none => rw [hc] at h; cases h
      | some c =>
        rw [hc] at h
        refine clo_sub r ((n, c) :: acc) cl h fun x c' e => ?_
        rw [List.lookup_cons] at e
        by_cases hx : (x == n) = true
        · rw [hx] at e
          have e' : c = c' := Option.some.inj e
          subst e'
          have : x = n := eq_of_beq hx
          subst this; exact hc
        · rw [Bool.not_eq_true] at hx
          rw [hx] at e
          exact ha x c' e
    · rw [if_neg hk] at h
      exact clo_sub r acc cl h ha
theorem clo_keep {cells : List (Str × Addr)} : ∀ (names : List (Str × NameKind)) (acc cl : List (Str × Addr)), clo cells names acc = some cl → ∀ x, (∃ c, acc.lookup x = some c) → ∃ c, cl.lookup x = some c
  | [], acc, cl, h, x, hx => by
    have e : acc = cl := Option.some.inj h
    subst e; exact hx
  | (n, k) :: r, acc, cl, h, x, hx => by
    unfold clo at h
    by_cases hk : (k == NameKind.free) = true
    · rw [if_pos hk] at h
      cases hc : cells.lookup n with
      | none => rw [hc] at h; cases h
      | some c =>
        rw [hc] at h
        refine clo_keep r ((n, c) :: acc) cl h x ?_
        rw [List.lookup_cons]
        by_cases hxn : (x == n) = true
        · rw [hxn]; exact ⟨c, rfl⟩
        · rw [Bool.not_eq_true] at hxn
          rw [hxn]; exact hx
    · rw [if_neg hk] at h
      exact clo_keep r acc cl h x hx
theorem clo_has {cells : List (Str × Addr)} : ∀ (names : List (Str × NameKind)) (acc cl : List (Str × Addr)), clo cells names acc = some cl → ∀ x, (x, NameKind.free) ∈ names → ∃ c, cl.lookup x = some c
  | [], _, _, _, x, hx => by cases hx
  | (n, k) :: r, acc, cl, h, x, hx => by
    unfold clo at h
    by_cases hk : (k == NameKind.free) = true
    · rw [if_pos hk] at h
      cases hc : cells.lookup n with
      | none => rw [hc] at h; cases h
      | some c =>
        rw [hc] at h
        rcases List.mem_cons.mp hx with e | hx
        · have e1 : x = n := congrArg Prod.fst e
          subst e1
          exact clo_keep r ((x, c) :: acc) cl h x ⟨c, by rw [List.lookup_cons, beq_self_eq_true]⟩
        · exact clo_has r _ cl h x hx
    · rw [if_neg hk] at h
      rcases List.mem_cons.mp hx with e | hx
      · cases e
        exact absurd (by rfl) hk
      · exact clo_has r acc cl h x hx
theorem relabel_kind {env : Env} : ∀ {names : List (Str × NameKind)} {x : Str} {k' : NameKind},
    (names.map fun (n, k) => if (k == NameKind.free && env.scope.kind == .function && env.kindOf n == some .cell) then (n, NameKind.cell) else (n, k)).lookup x = some k' → (x, k') ∈ names ∨ (k' = .cell ∧ (x, NameKind.free) ∈ names)
  | [], _, _, h => by cases h
  | (n, k) :: r, x, k', h => by
    have ih := @relabel_kind env r x k'
    by_cases hc : (k == NameKind.free && env.scope.kind == .function && env.kindOf n == some .cell) = true
    · have h2 : (((n, NameKind.cell) :: (r.map fun (n, k) => if (k == NameKind.free && env.scope.kind == .function && env.kindOf n == some .cell) then (n, NameKind.cell) else (n, k))).lookup x) = some k' := by
        rw [← h, List.map_cons]; simp only [hc, if_true]
      rw [List.lookup_cons] at h2
      by_cases hx : (x == n) = true
      · rw [hx] at h2
        have e : NameKind.cell = k' := Option.some.inj h2
        have e2 : x = n := eq_of_beq hx
        have e3 : k = .free := by
          simp only [Bool.and_eq_true] at hc
          exact eq_of_beq hc.1.1
        subst e e2 e3
        exact .inr ⟨rfl, List.mem_cons_self⟩
      · rw [Bool.not_eq_true] at hx
        rw [hx] at h2
        rcases ih h2 with q | ⟨e, q⟩
        · exact .inl (List.mem_cons_of_mem _ q)
        · exact .inr ⟨e, List.mem_cons_of_mem _ q⟩
    · have h2 : (((n, k) :: (r.map fun (n, k) => if (k == NameKind.free && env.scope.kind == .function && env.kindOf n == some .cell) then (n, NameKind.cell) else (n, k))).lookup x) = some k' := by
        rw [← h, List.map_cons]; simp only [hc, if_false, Bool.false_eq_true]
      rw [List.lookup_cons] at h2
      by_cases hx : (x == n) = true
      · rw [hx] at h2
        have e : k = k' := Option.some.inj h2
        have e2 : x = n := eq_of_beq hx
        subst e e2
        exact .inl List.mem_cons_self
      · rw [Bool.not_eq_true] at hx
        rw [hx] at h2
        rcases ih h2 with q | ⟨e, q⟩
        · exact .inl (List.mem_cons_of_mem _ q)
        · exact .inr ⟨e, List.mem_cons_of_mem _ q⟩
abbrev Cx.blk (X : Cx) (N' : List Str) (scope : Scope) (cl : List (Str × Addr)) (C : Addr) (s₀ : Shared) (H₀ : Hp) (ex : List Addr) : Cx :=
  { X with N := N', s₀ := s₀, H₀ := H₀, env := compEnvC scope cl C X.env, outer := X.stack, stack := X.stack, ex := ex, fn := fun _ => false, pn := [], xe := fun _ _ => False }
inductive FrOk (X : Cx) : List Str → List Nat → Prop
  | nil : FrOk X [] []
  | cons {x : Str} {j : Nat} {xs : List Str} {js : List Nat} : X.N[j]? = some x → (X.env.kindOf x = some .cell ∨ X.env.kindOf x = some .free) → FrOk X xs js → FrOk X (x :: xs) (j :: js)
theorem FrOk.get {X : Cx} : ∀ {xs : List Str} {js : List Nat} {i : Nat} {x : Str}, FrOk X xs js → xs[i]? = some x → ∃ j, js[i]? = some j ∧ X.N[j]? = some x ∧ (X.env.kindOf x = some .cell ∨ X.env.kindOf x = some .free)
  | _, _, _, _, .nil, e => by simp at e
  | _, _, 0, _, .cons a b _, e => by simp at e; subst e; exact ⟨_, rfl, a, b⟩
  | _, _, i + 1, x, .cons _ _ t, e => by
    obtain ⟨j, h1, h2⟩ := FrOk.get (i := i) (x := x) t (by simpa using e)
    exact ⟨j, by simpa using h1, h2⟩
theorem FrOk.len {X : Cx} : ∀ {xs : List Str} {js : List Nat}, FrOk X xs js → xs.length = js.length
  | _, _, .nil => rfl
  | _, _, .cons _ _ t => by rw [List.length_cons, List.length_cons, t.len]
def blkSt (k : Nat) (js : List Nat) (σ : St) : St := List.replicate k none ++ js.map fun j => (σ[j]?).join
def PIf (X : Cx) (ifs : List Expr) (t : TT) : Prop :=
  ∀ (pins : List (Addr × Obj)) (s : Shared) (σ : St) (H : Hp) (Q : Bool → Hp → Prop), Inv X pins σ H s → t σ H Q →
    wpAny (model X.prog X.w) X.A (forIn ifs true fun c r => if r = true then do let ok ← isTrue c X.env (eval c X.env); pure (ForInStep.yield ok) else pure (ForInStep.yield r)) (TP X pins σ Q) X.xe s
def tYes : TT := fun _ H Q => Q true H
theorem pif_nil {X : Cx} : PIf X [] tYes := fun _ _ _ H _ I h => wpAny_tests_nil ⟨H, I, h⟩
theorem pif_one {X : Cx} {c : Expr} {t : TT} (h : PT X c t) : PIf X [c] t := fun pins s σ H Q I q => wpAny_tests_one (h pins s σ H Q I q)
section
variable {prog : Program} {w : World} {A : Around} {R : Result → Shared → Prop} {s : Shared}
theorem compLoop_go {elt target iter : Expr} {ifs : List Expr} {scope : Scope} {pos : Pos} {it acc : Value} {env : Env} (I : Nat → Shared → Prop)
    (turn : ∀ n s, I n s → wpAny (model prog w) A (pyNext it) (fun r s₁ => match r with
      | none => R (.ok .next) s₁
      | some v => wpAny (model prog w) A (letOwnedTupleGo target it v) (fun _ s₀ => wpAny (model prog w) A (assign target env v) (fun _ s₂ =>
          wpAny (model prog w) A (forIn ifs true fun c r => if r = true then do let ok ← isTrue c env (eval c env); pure (ForInStep.yield ok) else pure (ForInStep.yield r)) (fun ok s₃ =>
            if ok = true then wpAny (model prog w) A (eval elt env) (fun x s₄ =>
              wpAny (model prog w) A (call (.builtin "list.append") [acc, x]) (fun _ s₅ => ∃ m, m < n ∧ I m s₅) (fun _ _ => False) s₄) (fun _ _ => False) s₃
            else ∃ m, m < n ∧ I m s₃) (fun _ _ => False) s₂) (fun _ _ => False) s₀) (fun _ _ => False) s₁) (fun _ _ => False) s)
    (n : Nat) (h : I n s) :
    codeAny (model prog w) A (.compLoop (.ListComp elt [⟨target, iter, ifs, 0⟩] scope pos) 0 it acc env) R s := by
  refine codeAny_loop rfl I (fun n s hI => ?_) n h
  show wpAny _ A ((compTurn (.ListComp elt [⟨target, iter, ifs, 0⟩] scope pos) 0 it acc env).onRaise (fun x => do noteFrame x env; theTreesLotGoes x)) _ _ s
  refine wpAny_noted ?_
  rw [compTurn_list]
  refine wpAny_bind (wpAny_standAt (wpAny_bind (wpAny_mono (turn n s hI) (fun r s₁ h₁ => ?_) fun _ _ h' => h'.elim)))
  cases r with
  | none => exact wpAny_pure h₁
  | some v =>
    refine wpAny_bind (wpAny_mono h₁ (fun _ s₀ h₀ => ?_) fun _ _ h' => h'.elim)
    refine wpAny_bind (wpAny_mono h₀ (fun _ s₂ h₂ => wpAny_bind (wpAny_mono h₂ (fun ok s₃ h₃ => ?_) fun _ _ h' => h'.elim)) fun _ _ h' => h'.elim)
    cases ok with
    | false => exact wpAny_pure ⟨rfl, h₃⟩
    | true =>
      exact wpAny_bind (wpAny_bind (wpAny_mono h₃ (fun x s₄ h₄ => wpAny_bind (wpAny_mono h₄ (fun _ s₅ h₅ => wpAny_pure (wpAny_pure ⟨rfl, h₅⟩)) fun _ _ h' => h'.elim)) fun _ _ h' => h'.elim))
end
def LcTurns (g : TG) (tc : TT) (te : TE) (σ' : St) (J : It) (H1 : Hp) (Q : VK) : Prop :=
  ∀ D, H1 D = none → ∃ W : Nat → Nat → List V → St → Hp → Prop, (∃ m, W 0 m [] σ' (upd H1 D (.lst []))) ∧ ∀ i m ys σ1 H, W i m ys σ1 H → H D = some (.lst ys) ∧ ys.length < sizeLine ∧
    ((J.stop i H ∧ Q (.ref D) H) ∨ (J.go i H ∧ ∀ x H', J.yld i H x H' → g x σ1 H' fun σ2 H2 => tc σ2 H2 fun b H3 =>
      if b = true then te σ2 H3 fun v H4 => H4 D = some (.lst ys) ∧ ∃ m', m' < m ∧ W (i + 1) m' (ys ++ [v]) σ2 (upd H4 D (.lst (ys ++ [v]))) else ∃ m', m' < m ∧ W (i + 1) m' ys σ2 H3))
structure BlkOk (X : Cx) (scope : Scope) (cl : List (Str × Addr)) : Prop where
  clo : L2.clo X.env.cells scope.names [] = some cl
  cell : ∀ y ∈ scope.names, y.2 ≠ .cell
  kind : scope.kind = .function
  names : ∀ y ∈ scope.names, y.2 = .local → scope.names.lookup y.1 = some .local
section
variable {X : Cx} {pins : List (Addr × Obj)} {σ : St} {H1 : Hp} {s₂ : Shared} {E : Value → Shared → Prop}
theorem Inv.blkOk {scope : Scope} {cl : List (Str × Addr)} {N' : List Str} {C : Addr} {fp : List Addr} (I : Inv X pins σ H1 s₂) (B : BlkOk X scope cl) (hC : s₂.heap.objs.size ≤ C) (hf : ∀ b ∈ fp, FpOk X pins H1 b)
    (ho : ∀ b ∈ fp, ∃ o, s₂.heap.get? b = some o) : (X.blk N' scope cl C s₂ H1 fp).Ok := by
  have sub := clo_sub scope.names [] cl B.clo (fun x c e => by cases e)
  refine ⟨I.ok.mod, B.kind, I.ok.glob, I.ok.blt, hC, fun x y c h1 h2 => I.ok.inj x y c (sub x c h1) (sub y c h2), fun x hx => ?_, fun x c h => ?_, I.ok.hd, I.ok.frames, .inl rfl, fun b hb => ⟨?_, fun x c e => ?_⟩, I.bs,
    Nat.le_trans I.ok.bsz I.sz, fun b o e hb => ?_, fun b hb hs => ?_, I.stack, I.stkFree⟩
  · have hx' : (compEnvC scope cl C X.env).kindOf x = some .cell ∨ (compEnvC scope cl C X.env).kindOf x = some .free := hx
    have key : ∀ k', (compEnvC scope cl C X.env).kindOf x = some k' → (k' = .cell ∨ k' = .free) → ∃ c, cl.lookup x = some c := fun k' e hk => by
      have e' : (scope.names.map fun (n, k) => if (k == NameKind.free && X.env.scope.kind == .function && X.env.kindOf n == some .cell) then (n, NameKind.cell) else (n, k)).lookup x = some k' := e
      rcases relabel_kind e' with q | ⟨_, q⟩
      · rcases hk with rfl | rfl
        · exact absurd rfl (B.cell _ q)
        · exact clo_has scope.names [] cl B.clo x q
      · exact clo_has scope.names [] cl B.clo x q
    rcases hx' with hx' | hx'
    · exact key _ hx' (.inl rfl)
    · exact key _ hx' (.inr rfl)
  · exact absurd h Bool.false_ne_true
  · obtain ⟨o, e⟩ := ho b hb
    exact Nat.ne_of_lt (Nat.lt_of_lt_of_le (Heap.lt_size e) hC)
  · exact (hf b hb).2.2.2.2.1 x c (sub x c e)
  · rcases (hf b hb).2.2.2.1 with z | z
    · exact I.ok.noex b o e z
    · exact absurd (Nat.lt_of_lt_of_le (Heap.lt_size e) (Nat.le_trans I.ok.bsz z)) (Nat.lt_irrefl _)
  · rcases List.mem_cons.mp (I.stkSub b hs) with z | z
    · exact (hf b hb).2.1 z
    · exact (hf b hb).2.2.1 z
theorem blk_run {elt target iter : Expr} {ifs : List Expr} {scope : Scope} {pos : Pos} {cl : List (Str × Addr)} {own frn : List Str} {js : List Nat} {g : TG} {tc : TT} {te : TE} {Q : VK} {it : Addr} {fp : List Addr} {tn : Nat → Heap → Prop} {J : It}
    {RR : Value → Addr → Result → Shared → Prop} (hc : X.calm = true) (B : BlkOk X scope cl) (hfr : FrOk X frn js) (hloc : ∀ x ∈ frn, scope.names.lookup x ≠ some .local)
    (hg : ∀ C s₀ H₀ ex, PG (X.blk (own ++ frn) scope cl C s₀ H₀ ex) target g) (hi : ∀ C s₀ H₀ ex, PIf (X.blk (own ++ frn) scope cl C s₀ H₀ ex) ifs tc) (he : ∀ C s₀ H₀ ex, PE (X.blk (own ++ frn) scope cl C s₀ H₀ ex) elt te)
    (I : Inv X pins σ H1 s₂) (T : Turn X.prog X.w X.K target J fp it tn) (st0 : tn 0 s₂.heap) (hf : ∀ b ∈ fp, FpOk X pins H1 b) (hq : LcTurns g tc te (blkSt own.length js σ) J H1 Q)
    (fin : ∀ D C s' H' m, s₂.heap.objs.size ≤ C → Inv X pins σ H' s' → s'.heap.Ns C m → FpOk X pins H' C → Q (.ref D) H' → RR (.ref D) C (.ok .next) s') :
    wpAny (model X.prog X.w) X.A (newList []) (fun acc s₃ => wpAny (model X.prog X.w) X.A (newFunctionEnv scope X.env.globals cl [] X.env.qual none .none (some X.env)) (fun cenv s₄ =>
      codeAny (model X.prog X.w) X.A (.compStart (.ListComp elt [⟨target, iter, ifs, 0⟩] scope pos) 0 (.ref it) acc { cenv with scope := relabel scope X.env }) (RR acc cenv.locals) s₄) E s₃) E s₂ := by
  have sub := clo_sub scope.names [] cl B.clo (fun x c e => by cases e)
  refine wpAny_newObj_type (wpAny_newFunctionEnv B.cell (by intro y hy; simp at hy) (fun h₁ hns₁ hsb₁ => ?_) B.kind)
  dsimp only at hns₁ hsb₁ ⊢
  generalize hH2 : s₂.heap.push { cls := .type "list", dict := none, data := .seq ([] : List Value).toArray } = H2 at hns₁ hsb₁ ⊢
  have hC : H2.objs.size = s₂.heap.objs.size + 1 := by rw [← hH2, Heap.size_push]
  have hDC : s₂.heap.objs.size ≠ H2.objs.size := by rw [hC]; exact Nat.ne_of_lt (Nat.lt_succ_self _)
  have hCle : s₂.heap.objs.size ≤ H2.objs.size := by rw [hC]; exact Nat.le_succ _
  have below : ∀ b, b < s₂.heap.objs.size → b ≠ H2.objs.size ∧ b ≠ s₂.heap.objs.size := fun b hb => ⟨by rw [hC]; exact Nat.ne_of_lt (Nat.lt_succ_of_lt hb), Nat.ne_of_lt hb⟩
  have old : ∀ b o, s₂.heap.get? b = some o → h₁.get? b = some o := fun b o e => hsb₁.extBut b o (below b (Heap.lt_size e)).1 (Heap.get?_push_of_some _ (hH2 ▸ Heap.get?_push_of_some _ e))
  have hacc : h₁.get? s₂.heap.objs.size = some { cls := .type "list", dict := none, data := .seq ([] : List Value).toArray } := hsb₁.extBut _ _ hDC (Heap.get?_push_of_some _ (hH2 ▸ Heap.get?_push_size _ rfl))
  have hfo : ∀ b ∈ fp, ∃ o, s₂.heap.get? b = some o ∧ ∀ v, o.data ≠ .cell v := T.obj 0 _ st0
  have D0 : H1 s₂.heap.objs.size = none := I.hok.fresh (Nat.le_refl _)
  have C0 : H1 H2.objs.size = none := I.hok.fresh hCle
  obtain ⟨W, ⟨m0, w0⟩, turn⟩ := hq _ D0
  have okX : (X.blk (own ++ frn) scope cl H2.objs.size s₂ H1 fp).Ok := I.blkOk (N' := own ++ frn) B hCle hf fun b hb => let ⟨o, e, _⟩ := hfo b hb; ⟨o, e⟩
  have I0 : Inv (X.blk (own ++ frn) scope cl H2.objs.size s₂ H1 fp) [] (blkSt own.length js σ) (upd H1 s₂.heap.objs.size (.lst [])) { s₂ with heap := h₁, toks := s₂.toks + ([] : List (Str × Value)).length } := by
    obtain ⟨m, hn, hl⟩ := id I.loc
    refine ⟨okX, rfl, I.bare, Un.laid old (Nat.le_refl _) D0, ⟨_, hns₁, fun i x v e1 e2 e3 => ?_⟩, fun x c e => ?_, ?_, fun x c e => ?_, fun p hp => ?_, ?_, ?_⟩
    · have e1 : (own ++ frn)[i]? = some x := e1
      unfold blkSt at e2
      by_cases hik : i < own.length
      · rw [List.getElem?_append_left (by simpa using hik), List.getElem?_replicate, if_pos hik] at e2
        cases e2
      · rw [List.getElem?_append_right (by simpa using hik), List.length_replicate, List.getElem?_map] at e2
        rw [List.getElem?_append_right (by omega)] at e1
        obtain ⟨j, hj, hNj, hk⟩ := hfr.get e1
        rw [hj] at e2
        have e2' : (σ[j]?).join = some v := Option.some.inj e2
        have e2'' : σ[j]? = some (some v) := by
          cases q : σ[j]? with
          | none => rw [q] at e2'; cases e2'
          | some o => rw [q] at e2'; cases o with
            | none => cases e2'
            | some y => have : y = v := Option.some.inj e2'; rw [this]
        obtain ⟨u, r, lk⟩ := hl j x v hNj e2'' (hk.elim (fun z => .inr (.inl z)) fun z => .inr (.inr z))
        refine ⟨u, r, ?_⟩
        rcases lk with ⟨k1, _⟩ | ⟨_, c, hcl, hcell⟩
        · rcases hk with z | z <;> (rw [k1] at z; cases z)
        · have hx3 : (compEnvC scope cl H2.objs.size X.env).kindOf x = some .local ∨ (compEnvC scope cl H2.objs.size X.env).kindOf x = some .cell ∨ (compEnvC scope cl H2.objs.size X.env).kindOf x = some .free := e3
          rcases hx3 with z | z
          · exfalso
            have z' : (scope.names.map fun (n, k) => if (k == NameKind.free && X.env.scope.kind == .function && X.env.kindOf n == some .cell) then (n, NameKind.cell) else (n, k)).lookup x = some .local := z
            rcases relabel_kind z' with q | ⟨q, _⟩
            · exact hloc x (List.mem_of_getElem? e1) (B.names _ q rfl)
            · cases q
          · obtain ⟨c', hc'⟩ := okX.has x z
            have q := sub x c' hc'
            rw [hcl] at q
            have q' : c = c' := Option.some.inj q
            subst q'
            refine .inr ⟨z, c, hc', ?_⟩
            obtain ⟨o, ho, hd⟩ := hcell
            exact ⟨o, old _ _ ho, hd⟩
    · obtain ⟨v, o, ho, hd⟩ := I.cell x c (sub x c e)
      exact ⟨v, o, old _ _ ho, hd⟩
    · show upd H1 _ _ H2.objs.size = none
      rw [upd_ne (Ne.symm hDC)]; exact C0
    · obtain ⟨v, o, ho, hd⟩ := I.cell x c (sub x c e)
      rw [upd_ne (below c (Heap.lt_size ho)).2]; exact I.freeC x c (sub x c e)
    · cases hp
    · exact I.hok.laid old (Nat.le_refl _) ⟨Nat.zero_le _, [], _, .nil, hacc⟩
    · unfold blkSt
      show _ = (own ++ frn).length
      rw [List.length_append, List.length_append, List.length_replicate, List.length_map, hfr.len]
  -- the iterator's objects in the block
  have fpx : ∀ {H : Hp}, (∀ b ∈ fp, H b = none) → ∀ b ∈ fp, FpOk (X.blk (own ++ frn) scope cl H2.objs.size s₂ H1 fp) [] H b := fun {H} hn b hb => by
    obtain ⟨f0, f1, f2, f3, f4, f5⟩ := hf b hb
    obtain ⟨o, e, _⟩ := hfo b hb
    refine ⟨hn b hb, (below b (Heap.lt_size e)).1, fun z => ?_, .inl hb, fun x c e => f4 x c (sub x c e), fun p hp => by cases hp⟩
    rcases List.mem_cons.mp (I.stkSub b z) with z | z
    · exact f1 z
    · exact f2 z
  have st1 : tn 0 h₁ := T.keep _ _ _ st0 fun b _ o e => old b o e
  have fr0 : ∀ b ∈ fp, upd H1 s₂.heap.objs.size (.lst []) b = none := fun b hb => by
    obtain ⟨o, e, _⟩ := hfo b hb
    rw [upd_ne (below b (Heap.lt_size e)).2]; exact (hf b hb).1
  have loop : codeAny (model X.prog X.w) X.A (.compLoop (.ListComp elt [⟨target, iter, ifs, 0⟩] scope pos) 0 (.ref it) (.ref s₂.heap.objs.size) (compEnvC scope cl H2.objs.size X.env))
      (RR (.ref s₂.heap.objs.size) H2.objs.size) { s₂ with heap := h₁, toks := s₂.toks + ([] : List (Str × Value)).length } := by
    refine compLoop_go (fun n s' => ∃ i ys σ1 H, Inv (X.blk (own ++ frn) scope cl H2.objs.size s₂ H1 fp) [] σ1 H s' ∧ tn i s'.heap ∧ (∀ b ∈ fp, H b = none) ∧ W i n ys σ1 H) ?_ m0 ⟨0, [], _, _, I0, st1, fr0, w0⟩
    rintro n s3 ⟨i, ys, σ3, H3, I3, st3, fr3, w3⟩
    obtain ⟨hD3, hsz, alt⟩ := turn i n ys σ3 H3 w3
    rcases alt with ⟨stop, qn⟩ | ⟨go, step⟩
    · refine thn (T.done (X.blk (own ++ frn) scope cl H2.objs.size s₂ H1 fp) rfl rfl rfl hc i [] s3 σ3 H3 _ I3 (fpx fr3) st3 stop) fun r s4 ⟨hr, I4⟩ => ?_
      subst hr
      obtain ⟨m, hn, _⟩ := id I4.loc
      have hch : ∀ b ∈ fp, (b ∈ X.ex ∨ X.s₀.heap.objs.size ≤ b) ∧ b ≠ X.env.locals ∧ (∀ x c, X.env.cells.lookup x = some c → c ≠ b) ∧ ∀ p ∈ X.pn ++ pins, p.1 ≠ b := fun b hb => by
        obtain ⟨f0, f1, f2, f3, f4, f5⟩ := hf b hb
        exact ⟨f3, f1, f4, f5⟩
      have IX : Inv X pins σ H3 s4 := I.call' I4.os I4.base I4.hok I4.bare hch
      exact fin _ _ s4 H3 m hCle IX hn (I.fpOk hCle I4.free) qn
    · refine thn (T.item (X.blk (own ++ frn) scope cl H2.objs.size s₂ H1 fp) rfl rfl rfl hc i [] s3 σ3 H3 _ I3 (fpx fr3) st3 go) fun r s4 ⟨u, hr, h4⟩ => ?_
      subst hr
      refine thn h4 fun _ s5 ⟨x, H5, I5, r5, y5, st5, fr5⟩ => ?_
      have I5' := I5.pinned (fpx fr5) (T.obj _ _ st5)
      refine thn (hg _ _ _ _ _ s5 σ3 H5 x u _ I5' r5 (step x H5 y5)) fun _ s6 ⟨σ6, H6, I6, q6⟩ => ?_
      refine thn (hi _ _ _ _ _ s6 σ6 H6 _ I6 q6) fun b s7 ⟨H7, I7, q7⟩ => ?_
      have again : ∀ {ys' : List V} {H8 : Hp} {s8 : Shared} {m' : Nat}, Inv (X.blk (own ++ frn) scope cl H2.objs.size s₂ H1 fp) ([] ++ pinsAt fp s5.heap) σ6 H8 s8 → m' < n → W (i + 1) m' ys' σ6 H8 →
          ∃ m, m < n ∧ ∃ i ys σ1 H, Inv (X.blk (own ++ frn) scope cl H2.objs.size s₂ H1 fp) [] σ1 H s8 ∧ tn i s8.heap ∧ (∀ b ∈ fp, H b = none) ∧ W i m ys σ1 H := fun {ys' H8 s8 m'} I8 hm w8 => by
        refine ⟨m', hm, i + 1, ys', σ6, H8, I8.unpinned, T.keep _ _ _ st5 fun b hb o e => (I8.pin (b, o) (List.mem_append_right _ (List.mem_append_right _ (mem_pinsAt hb e)))).1, fun b hb => ?_, w8⟩
        obtain ⟨o, e, d⟩ := T.obj _ _ st5 b hb
        exact (I8.pin (b, o) (List.mem_append_right _ (List.mem_append_right _ (mem_pinsAt hb e)))).2.1
      cases b with
      | false =>
        rw [if_neg Bool.false_ne_true] at q7 ⊢
        obtain ⟨m', hm, w7⟩ := q7
        exact again I7 hm w7
      | true =>
        rw [if_pos rfl] at q7 ⊢
        refine thn (he _ _ _ _ _ s7 σ6 H7 _ I7 q7) fun v s8 ⟨y, H8, I8, r8, hD8, m', hm, w8⟩ => ?_
        refine thn (mt_append (X := X.blk (own ++ frn) scope cl H2.objs.size s₂ H1 fp) _ s8 σ6 H8 (.ref s₂.heap.objs.size) [y] _ [v] (fun _ H9 => W (i + 1) m' (ys ++ [y]) σ6 H9) I8 rfl (.cons r8 .nil) ⟨_, ys, y, rfl, rfl, hD8, hsz, w8⟩) fun _ s9 ⟨_, H9, I9, _, w9⟩ => ?_
        exact again I9 hm w9
  exact codeAny_compStart_list loop (T.self X.A 0 _ _ _ st1 loop)
end
def tLC (k : Nat) (js : List Nat) (wi : TI) (g : TG) (tc : TT) (te : TE) : TE := fun σ H Q => wi σ H fun J H1 => LcTurns g tc te (blkSt k js σ) J H1 Q
section
variable {X : Cx}
theorem pe_lc {elt target iter : Expr} {ifs : List Expr} {scope : Scope} {pos : Pos} {cl : List (Str × Addr)} {frn : List Str} {js : List Nat} {wi : TI} {g : TG} {tc : TT} {te : TE} (own : List Str) (hc : X.calm = true) (B : BlkOk X scope cl) (hfr : FrOk X frn js)
    (hloc : ∀ x ∈ frn, scope.names.lookup x ≠ some .local) (hi : PI X target iter wi)
    (hg : ∀ C s₀ H₀ ex, PG (X.blk (own ++ frn) scope cl C s₀ H₀ ex) target g) (hif : ∀ C s₀ H₀ ex, PIf (X.blk (own ++ frn) scope cl C s₀ H₀ ex) ifs tc) (he : ∀ C s₀ H₀ ex, PE (X.blk (own ++ frn) scope cl C s₀ H₀ ex) elt te)
    (hs : ∀ x, foldedSetIterable iter X.env x = pure x := by intro _; rfl) : PE X (.ListComp elt [⟨target, iter, ifs, 0⟩] scope pos) (tLC own.length js wi g tc te) := by
  intro pins s σ H Q I h
  rw [eval_ListComp]
  refine wpAny_comprehension_free (use := none) rfl hs (closureFor_clo B.clo) B.kind B.names (thn (hi pins s σ H _ I h) fun v s1 h1 => thn h1 fun itv s2 h2 => ?_)
  obtain ⟨it, fp, tn, J, H2, e, I2, T, st2, f2, hq⟩ := h2
  subst e
  refine blk_run (RR := fun acc C => compPost (model X.prog X.w) X.A X.xe none (EP X pins σ Q) acc C) hc B hfr hloc hg hif he I2 T st2 f2 hq ?_
  intro D C s' H' m hC I' hn fC q
  exact ⟨m, hn, fun h' sb => ⟨.ref D, H', I'.turned (t' := s'.toks) (fun b o hb e => (sb.2 b hb).trans e) fC.1 fC.2.1 fC.2.2.2.1 fC.2.2.2.2.1 fC.2.2.2.2.2, rfl, q⟩⟩
theorem ps_setLC {elt target iter : Expr} {ifs : List Expr} {scope : Scope} {pos py spos : Pos} {y : Str} {i : Nat} {cl : List (Str × Addr)} {frn : List Str} {js : List Nat} {wi : TI} {g : TG} {tc : TT} {te : TE} (own : List Str) (hN : X.N.Nodup) (hiy : X.N[i]? = some y)
    (hy : Loc X.env.scope y) (hc : X.calm = true) (B : BlkOk X scope cl) (hfr : FrOk X frn js)
    (hloc : ∀ x ∈ frn, scope.names.lookup x ≠ some .local) (hi : PI X target iter wi)
    (hg : ∀ C s₀ H₀ ex, PG (X.blk (own ++ frn) scope cl C s₀ H₀ ex) target g) (hif : ∀ C s₀ H₀ ex, PIf (X.blk (own ++ frn) scope cl C s₀ H₀ ex) ifs tc) (he : ∀ C s₀ H₀ ex, PE (X.blk (own ++ frn) scope cl C s₀ H₀ ex) elt te)
    (hsw : swapsWith (.ListComp elt [⟨target, iter, ifs, 0⟩] scope pos) (some (.Name y py)) spos.line X.env = pure true := by rfl)
    (hs : ∀ x, foldedSetIterable iter X.env x = pure x := by intro _; rfl)
    (hf : X.fn y = true ∨ X.env.scope.names.lookup y = some .local := by first | exact .inl rfl | exact .inr rfl | assumption) :
    PS X (.Assign [.Name y py] (.ListComp elt [⟨target, iter, ifs, 0⟩] scope pos) spos) (tAsg (tLC own.length js wi g tc te) (gName i)) := by
  intro pins s σ H D I h
  rw [exec_Assign_Name_used _ _ _ _ hsw]
  refine wpAny_bind (wpAny_standAt (wpAny_bind ?_))
  show wpAny _ X.A (do let _ ← comprehension (.ListComp elt [⟨target, iter, ifs, 0⟩] scope pos) scope X.env _ (newList []) false (eval iter X.env) (some (assign (.Name y py) X.env))) _ _ s
  refine wpAny_bind (wpAny_mono (wpAny_comprehension_free (use := some (assign (.Name y py) X.env)) (Q := fun _ s' => SP X pins D .next s') rfl hs (closureFor_clo B.clo) B.kind B.names
    (thn (hi pins s σ H _ I h) fun v s1 h1 => thn h1 fun itv s2 h2 => ?_)) (fun _ s' hq => wpAny_pure (wpAny_pure hq)) fun _ _ e => e)
  obtain ⟨it, fp, tn, J, H2, e, I2, T, st2, f2, hq⟩ := h2
  subst e
  refine blk_run (Q := fun x H1 => D.nx (σ.set i (some x)) H1) (RR := fun acc C => compPost (model X.prog X.w) X.A X.xe (some (assign (.Name y py) X.env)) (fun _ s' => SP X pins D .next s') acc C) hc B hfr hloc hg hif he I2 T st2 f2 hq ?_
  intro L C s' H' m hC I' hn fC q
  show wpAny _ X.A (assign (.Name y py) X.env (.ref L)) _ _ _
  refine wpAny_assign_Name (store_ok2 (v := .ref L) I' hN hiy hy rfl (fun s'' I'' ⟨a, sb, ha⟩ => ?_) hf)
  have hCa : C ≠ a := by
    rcases ha with z | z
    · rw [z]; exact fC.2.1
    · exact fun e => fC.2.2.2.2.1 y a z e.symm
  exact ⟨m, hn.sameBut sb hCa, fun h' sb' => ⟨_, H', I''.turned (t' := s''.toks) (fun b o hb e => (sb'.2 b hb).trans e) fC.1 fC.2.1 fC.2.2.2.1 fC.2.2.2.2.1 fC.2.2.2.2.2, q⟩⟩
end
def It.Seq (J : It) (H1 : Hp) (xs : List V) : Prop :=
  ∀ H, Same H1 H → (∀ i x, xs[i]? = some x → J.go i H ∧ ∀ y H', J.yld i H y H' → H' = H ∧ y = x) ∧ ∀ i, xs.length ≤ i → J.stop i H
theorem seq_list {K : PySem.W.Frag} {a : Addr} {xs : List V} {H1 : Hp} (h : SqL K H1 a xs) : (Itl K a).Seq H1 xs := fun H s =>
  ⟨fun i x e => ⟨⟨xs, x, s.seq h, e⟩, fun y H' ⟨e1, e2⟩ => ⟨e1, Option.some.inj ((e2 xs (s.seq h)).symm.trans e)⟩⟩, fun i hi => ⟨xs, s.seq h, hi⟩⟩
theorem seq_range {H1 : Hp} {n : Nat} {lo : Int} : (Itr lo n).Seq H1 ((List.range n).map fun (k : Nat) => V.int (lo + (k : Int))) := fun H s => by
  refine ⟨fun i x e => ?_, fun i hi => ?_⟩
  · have hi : i < n := by
      have := (List.getElem?_eq_some_iff.mp e).1
      simpa using this
    rw [List.getElem?_map, List.getElem?_range hi] at e
    have e' : V.int (lo + (i : Int)) = x := Option.some.inj e
    exact ⟨hi, fun y H' ⟨e1, e2⟩ => ⟨e1, by rw [e2, e']⟩⟩
  · show n ≤ i
    simpa using hi
theorem Same.upd_new {H H' : Hp} {a : Addr} {o : HO} (h : Same H H') (hn : H a = none) : Same H (upd H' a o) := fun b u e => by
  rw [upd_ne (ne_of_none e hn)]; exact h b u e
theorem lc_one {J : It} {H1 : Hp} {xs : List V} {js : List Nat} {σ : St} {tc : TT} {te : TE} {Q : VK} (hJ : J.Seq H1 xs) (hl : xs.length < sizeLine) (p : V → Bool) (f : V → V)
    (hc : ∀ x ∈ xs, ∀ H, Same H1 H → ∀ R : Bool → Hp → Prop, (∀ H', Same H H' → R (p x) H') → tc (some x :: js.map fun j => (σ[j]?).join) H R)
    (he : ∀ x ∈ xs, p x = true → ∀ H, Same H1 H → ∀ R : VK, (∀ H', Same H H' → R (f x) H') → te (some x :: js.map fun j => (σ[j]?).join) H R)
    (q : ∀ D H, H1 D = none → Same H1 H → H D = some (.lst ((xs.filter p).map f)) → Q (.ref D) H) : LcTurns (gName 0) tc te (blkSt 1 js σ) J H1 Q := by
  intro D hD
  refine ⟨fun i m ys σ1 H => m = xs.length - i ∧ i ≤ xs.length ∧ (∃ o, σ1 = o :: js.map fun j => (σ[j]?).join) ∧ ys = ((xs.take i).filter p).map f ∧ Same H1 H ∧ H D = some (.lst ys),
    ⟨xs.length, by simp, Nat.zero_le _, ⟨none, rfl⟩, by simp, (Same.refl H1).upd_new hD, upd_same⟩, ?_⟩
  rintro i m ys σ1 H ⟨rfl, hi, ⟨o, rfl⟩, rfl, sH, hL⟩
  have hlen : (((xs.take i).filter p).map f).length < sizeLine := by
    rw [List.length_map]
    have h1 := List.length_filter_le p (xs.take i)
    have h2 : (xs.take i).length ≤ xs.length := by rw [List.length_take]; omega
    omega
  refine ⟨hL, hlen, ?_⟩
  by_cases hlt : i < xs.length
  · have e : xs[i]? = some xs[i] := by simp [hlt]
    obtain ⟨go, yl⟩ := (hJ H sH).1 i xs[i] e
    refine .inr ⟨go, fun x H' y => ?_⟩
    obtain ⟨e1, e2⟩ := yl x H' y
    subst e1 e2
    have hm : xs[i] ∈ xs := List.getElem_mem hlt
    have htk : xs.take (i + 1) = xs.take i ++ [xs[i]] := by rw [List.take_add_one, e]; rfl
    show tc (some xs[i] :: js.map fun j => (σ[j]?).join) H' _
    refine hc xs[i] hm H' sH _ fun H3 s3 => ?_
    cases hp : p xs[i] with
    | false =>
      rw [if_neg Bool.false_ne_true]
      refine ⟨xs.length - (i + 1), by omega, rfl, hlt, ⟨_, rfl⟩, ?_, sH.trans s3, s3 _ _ hL⟩
      rw [htk, List.filter_append]; simp [hp]
    | true =>
      rw [if_pos rfl]
      refine he xs[i] hm hp H3 (sH.trans s3) _ fun H4 s4 => ?_
      refine ⟨s4 _ _ (s3 _ _ hL), xs.length - (i + 1), by omega, rfl, hlt, ⟨_, rfl⟩, ?_, ((sH.trans s3).trans s4).upd_new hD, upd_same⟩
      rw [htk, List.filter_append]; simp [hp]
  · have e : i = xs.length := by omega
    subst e
    refine .inl ⟨(hJ H sH).2 _ (Nat.le_refl _), q D H hD sH ?_⟩
    rw [List.take_length] at hL; exact hL
theorem lc_map {J : It} {H1 : Hp} {xs : List V} {js : List Nat} {σ : St} {te : TE} {Q : VK} (hJ : J.Seq H1 xs) (hl : xs.length < sizeLine) (f : V → V)
    (he : ∀ x ∈ xs, ∀ H, Same H1 H → ∀ R : VK, (∀ H', Same H H' → R (f x) H') → te (some x :: js.map fun j => (σ[j]?).join) H R)
    (q : ∀ D H, H1 D = none → Same H1 H → H D = some (.lst (xs.map f)) → Q (.ref D) H) : LcTurns (gName 0) tYes te (blkSt 1 js σ) J H1 Q :=
  lc_one hJ hl (fun _ => true) f (fun x _ H _ R hR => hR H (Same.refl H)) (fun x hx _ H s R hR => he x hx H s R hR) fun D H h1 h2 h3 => q D H h1 h2 (by rw [List.filter_eq_self.mpr (fun _ _ => rfl)] at h3; exact h3)
end L2

namespace L2
open PySem PySem.Spec PyProof.Rows
section
variable {X : Cx}
def CBig (i j : Int) : Prop := i.natAbs < 2 ^ 1000 ∧ j.natAbs < 2 ^ 1000
theorem op_mulZ : OpR X (binaryOp .Mult) (rI CBig fun i j => .int (i * j)) := opI fun _ _ _ _ _ _ _ hc q =>
  mul_int q (IntMulOk.of_bits (Nat.le_trans (intBits_le_iff.mpr hc.1) (by decide)) (Nat.le_trans (intBits_le_iff.mpr hc.2) (by decide)))
def CDivZ (_ j : Int) : Prop := 0 < j ∧ j < 2 ^ 1000
theorem op_fdivZ : OpR X (binaryOp .FloorDiv) (rI CDivZ fun i j => .int (i / j)) := opI fun i j _ _ _ _ _ hc q => by
  have h1 : (0 : Int) < j := hc.1
  have h2 : j < 2 ^ 1000 := hc.2
  have h3 : j.natAbs < 2 ^ 1000 := by
    have e : ((j.natAbs : Nat) : Int) = j := Int.natAbs_of_nonneg (by omega)
    have e2 : ((2 ^ 1000 : Nat) : Int) = (2 : Int) ^ 1000 := by rw [Int.natCast_pow]; rfl
    omega
  refine floordiv_int (by omega) (by rw [Int.fdiv_eq_ediv_of_nonneg i (by omega)]; exact q) (.inl (PyProof.noPylong_of_log2 ?_))
  have h4 : j.natAbs ≠ 0 := by omega
  exact Nat.lt_of_lt_of_le ((Nat.log2_lt h4).mpr h3) (by decide)
theorem op_is_bl : OpR X (compareOp .Is) (fun x y H Q => ∃ a b, x = .bl a ∧ y = .bl b ∧ Q (.bl (a == b)) H) := by
  intro pins s σ H x y v u Q I rx ry h
  obtain ⟨a, b, rfl, rfl, q⟩ := h
  cases rx; cases ry
  exact is_bool (fin_bl I q rfl)
theorem op_isnot_bl : OpR X (compareOp .IsNot) (fun x y H Q => ∃ a b, x = .bl a ∧ y = .bl b ∧ Q (.bl (a != b)) H) := by
  intro pins s σ H x y v u Q I rx ry h
  obtain ⟨a, b, rfl, rfl, q⟩ := h
  cases rx; cases ry
  exact isnot_bool (fin_bl I q rfl)
def rIsi (K : PySem.W.Frag) : List V → Hp → VK → Prop := fun xs H Q => ∃ x t c b, xs = [x, .ty c] ∧ TyOf K H x t ∧ PySem.W.kitOne K t (.type c) = some b ∧ Q (.bl b) H
theorem call_isi : CallR X (.builtin "isinstance") (rIsi X.K) := by
  intro pins s σ H xs us Q I r h
  obtain ⟨x, t, c, b, rfl, ty, e, q⟩ := h
  obtain ⟨u, w', rfl, ru, rw'⟩ := vals2 r
  obtain rfl : w' = Value.type c := rw'
  exact isinst_ok I ru ty e fun tk => ⟨.bl b, H, I.tok tk, rfl, q⟩
def eqVs : List V → List V → Bool
  | [], [] => true
  | x :: xs, y :: ys => eqV x y && eqVs xs ys
  | _, _ => false
theorem eqVs_len : ∀ {xs ys : List V}, xs.length ≠ ys.length → eqVs xs ys = false
  | [], [], h => absurd rfl h
  | [], _ :: _, _ => rfl
  | _ :: _, [], _ => rfl
  | x :: xs, y :: ys, h => by
    have h' : xs.length ≠ ys.length := fun e => h (by rw [List.length_cons, List.length_cons, e])
    show (eqV x y && eqVs xs ys) = false
    rw [eqVs_len h', Bool.and_false]
theorem eqVs_range : ∀ {xs ys : List V}, xs.length = ys.length → (List.range xs.length).all (fun j => eqV (xs.getD j .non) (ys.getD j .non)) = eqVs xs ys
  | [], [], _ => rfl
  | [], _ :: _, h => by cases h
  | _ :: _, [], h => by cases h
  | x :: xs, y :: ys, h => by
    have h' : xs.length = ys.length := by simpa using h
    rw [List.length_cons, List.range_succ_eq_map, List.all_cons, List.all_map]
    show (eqV x y && (List.range xs.length).all (fun j => eqV (xs.getD j .non) (ys.getD j .non))) = (eqV x y && eqVs xs ys)
    rw [eqVs_range h']
theorem eqVs_ints : ∀ (xs ys : List Int), eqVs (xs.map V.int) (ys.map V.int) = decide (xs = ys)
  | [], [] => rfl
  | [], _ :: _ => rfl
  | _ :: _, [] => rfl
  | x :: xs, y :: ys => by
    show ((x == y) && eqVs (xs.map V.int) (ys.map V.int)) = _
    rw [eqVs_ints xs ys]
    by_cases e : x = y
    · subst e
      by_cases e2 : xs = ys
      · subst e2; simp
      · simp [e2]
    · simp [e]
theorem flat_ints (xs : List Int) : (xs.map V.int).all flatV = true := by
  rw [List.all_eq_true]; intro v hv
  obtain ⟨i, _, rfl⟩ := List.mem_map.mp hv
  rfl
def rEqL (K : PySem.W.Frag) (neg : Bool) : R2 := fun x y H Q => ∃ a b xs ys, x = .ref a ∧ y = .ref b ∧ SqL K H a xs ∧ SqL K H b ys ∧ xs.all flatV = true ∧ ys.all flatV = true ∧ Q (.bl (if neg then !eqVs xs ys else eqVs xs ys)) H
theorem eqAt_items {A : Around} {s : Shared} {xs ys : List V} {us vs : List Value} (r1 : Vals xs us) (r2 : Vals ys vs) (f1 : xs.all flatV = true) (f2 : ys.all flatV = true) (j : Nat) (h1 : j < us.toArray.size) (h2 : j < vs.toArray.size) :
    SeqAt.EqAt A s us.toArray[j] vs.toArray[j] (eqV (xs.getD j .non) (ys.getD j .non)) := by
  have l1 := r1.length
  have l2 := r2.length
  rw [List.size_toArray] at h1 h2
  have e1 : xs[j]? = some (xs[j]'(by omega)) := by simp [show j < xs.length by omega]
  have e2 : ys[j]? = some (ys[j]'(by omega)) := by simp [show j < ys.length by omega]
  obtain ⟨u, hu, ru⟩ := r1.get e1
  obtain ⟨v, hv, rv⟩ := r2.get e2
  have hu' : us.toArray[j] = u := by
    have := List.getElem?_eq_some_iff.mp hu
    simpa using this.2
  have hv' : vs.toArray[j] = v := by
    have := List.getElem?_eq_some_iff.mp hv
    simpa using this.2
  rw [hu', hv', List.getD_eq_getElem?_getD, List.getD_eq_getElem?_getD, e1, e2]
  exact eqAt_V ru rv (List.all_eq_true.mp f1 _ (List.getElem_mem _)) (List.all_eq_true.mp f2 _ (List.getElem_mem _))
theorem op_eqL (hu : X.A.units < cLine) : OpR X (compareOp .Eq) (rEqL X.K false) := by
  intro pins s σ H x y v u Q I rx ry h
  obtain ⟨a, b, xs, ys, rfl, rfl, ha, hb, f1, f2, q⟩ := h
  cases rx; cases ry
  obtain ⟨us, r1, p1, _⟩ := I.list ha
  obtain ⟨vs, r2, p2, _⟩ := I.list hb
  have l1 := r1.length
  have l2 := r2.length
  by_cases hl : xs.length = ys.length
  · refine SeqAt.eq_listAt p1.isList p2.isList (by simp only [List.size_toArray]; omega) hu (fun j h1 h2 => eqAt_items r1 r2 f1 f2 j h1 h2) ⟨.bl _, H, I, rfl, ?_⟩
    rw [List.size_toArray, ← l1, eqVs_range hl]; exact q
  · refine SeqAt.eq_list_lengthsAt p1.isList p2.isList (by simp only [List.size_toArray, bne_iff_ne, ne_eq]; omega) hu ⟨.bl _, H, I, rfl, ?_⟩
    have e := eqVs_len hl
    rw [if_neg Bool.false_ne_true, e] at q; exact q
theorem op_neL (hu : X.A.units < cLine) : OpR X (compareOp .NotEq) (rEqL X.K true) := by
  intro pins s σ H x y v u Q I rx ry h
  obtain ⟨a, b, xs, ys, rfl, rfl, ha, hb, f1, f2, q⟩ := h
  cases rx; cases ry
  obtain ⟨us, r1, p1, _⟩ := I.list ha
  obtain ⟨vs, r2, p2, _⟩ := I.list hb
  have l1 := r1.length
  have l2 := r2.length
  by_cases hl : xs.length = ys.length
  · refine SeqAt.RcNeAt.lists p1.isList p2.isList (by simp only [List.size_toArray]; omega) hu (fun j h1 h2 => eqAt_items r1 r2 f1 f2 j h1 h2) _ _ _ _ ⟨.bl _, H, I, rfl, ?_⟩
    rw [List.size_toArray, ← l1, eqVs_range hl]; exact q
  · refine SeqAt.RcNeAt.lists_lengths p1.isList p2.isList (by simp only [List.size_toArray, bne_iff_ne, ne_eq]; omega) hu _ _ _ _ ⟨.bl _, H, I, rfl, ?_⟩
    have e := eqVs_len hl
    rw [if_pos rfl, e] at q; exact q
theorem Vals.bools : ∀ {bs : List Bool} {us : List Value}, Vals (bs.map V.bl) us → us = bs.map Value.bool
  | [], _, .nil => rfl
  | b :: bs, _ :: _, .cons r t => by
    cases (show _ = Value.bool b from r)
    rw [List.map_cons, Vals.bools t]
theorem all_range (bs : List Bool) : (List.range bs.length).all (fun i => bs.getD i false) = bs.all id := by
  induction bs with
  | nil => rfl
  | cons b r ih =>
    rw [List.length_cons, List.range_succ_eq_map, List.all_cons, List.all_map, List.all_cons]
    show (b && (List.range r.length).all (fun i => r.getD i false)) = _
    rw [ih]; rfl
theorem truth_bools (bs : List Bool) (A : Around) (P : Program) (w : World) : TruthOf P w A (fun i v => (bs.map Value.bool).toArray[i]? = some v) (fun i => bs.getD i false) := fun i v s Q E hP hQ => by
  have e : (bs[i]?).map Value.bool = some v := by simpa using hP
  cases q : bs[i]? with
  | none => rw [q] at e; cases e
  | some b =>
    rw [q] at e
    have e' : Value.bool b = v := Option.some.inj e
    subst e'
    have hb : bs.getD i false = b := by rw [List.getD_eq_getElem?_getD, q]; rfl
    have hQ' : Q (bs.getD i false) s := hQ
    rw [hb] at hQ'
    exact wpAny_truthy_bool hQ'
def rAll (K : PySem.W.Frag) : List V → Hp → VK → Prop := fun vs H Q => ∃ (a : Addr) (bs : List Bool), vs = [.ref a] ∧ SqL K H a (bs.map V.bl) ∧ Q (.bl (bs.all id)) H
theorem call_allB (hc : X.calm = true) : CallR X (.builtin "all") (rAll X.K) := by
  intro pins s σ H xs us Q I r h
  obtain ⟨a, bs, rfl, hq, q⟩ := h
  obtain ⟨u, rfl, ru⟩ := vals1 r
  cases ru
  obtain ⟨its, rv, p, hz⟩ := I.list hq
  obtain rfl := rv.bools
  have ha : a < s.heap.objs.size := by obtain ⟨o, e, _⟩ := p.isList; exact Heap.lt_size e
  refine call_all_walk (wpAny_pyIter_list p.isList ⟨s.heap.objs.size, _, _, _, _, _, fun i => bs.getD i false, rfl, Walks.list (A := X.A.in1) (I.ok.hd hc) _ a (Nat.ne_of_lt ha) _, ⟨⟨_, Heap.get?_push_size _ rfl, rfl, rfl⟩, p.isList.push _⟩, truth_bools bs _ _ _, fun h' tk hk => ?_⟩)
  refine ⟨.bl (bs.all id), H, I.kept fun b o e => hk b o (fun z => ?_) (Heap.get?_push_of_some _ e), ?_, q⟩
  · have z' : b = s.heap.objs.size := by simpa using z
    exact absurd (Heap.lt_size e) (by rw [z']; exact Nat.lt_irrefl _)
  · show Value.bool _ = Value.bool _
    rw [← all_range bs]; simp
def rRng1 : List V → Hp → VK → Prop := fun vs H Q => ∃ j : Int, vs = [.int j] ∧ ∀ p, H p = none → Q (.ref p) (upd H p (.rng 0 j))
theorem call_rng1 : CallR X (.type "range") rRng1 := by
  intro pins s σ H xs us Q I r h
  obtain ⟨j, rfl, q⟩ := h
  obtain ⟨u, rfl, t, rfl⟩ := vals1 r
  refine call_range_1 ?_
  exact ⟨.ref s.heap.objs.size, _, I.laid (fun b ob e => Heap.get?_push_of_some _ e) (Nat.le_refl _) (show ObjOk X.prog X.w _ _ _ (.rng 0 j) from ⟨_, _, _, Heap.get?_push_size _ rfl⟩), rfl, q _ (I.hok.fresh (Nat.le_refl _))⟩
def rngV (lo : Int) (n : Nat) : List V := (List.range n).map fun (k : Nat) => V.int (lo + (k : Int))
theorem vals_items {lo : Int} {n : Nat} {acc : Array Value} (h : ItemsOf (fun (i : Nat) v => ∃ t, v = Value.int (lo + (i : Int) * 1) t) acc n) : Vals (rngV lo n) acc.toList := by
  obtain ⟨hs, hi⟩ := h
  have key : ∀ (xs : List Value) (m : Nat), (∀ j v, xs[j]? = some v → ∃ t, v = Value.int (lo + ((m + j : Nat) : Int)) t) → Vals ((List.range' m xs.length).map fun (k : Nat) => V.int (lo + (k : Int))) xs := by
    intro xs
    induction xs with
    | nil => intro m _; exact .nil
    | cons x r ih =>
      intro m hx
      rw [List.length_cons, List.range'_succ, List.map_cons]
      refine .cons ?_ (ih (m + 1) fun j v e => ?_)
      · obtain ⟨t, e⟩ := hx 0 x rfl
        exact ⟨t, by simpa using e⟩
      · obtain ⟨t, e'⟩ := hx (j + 1) v (by simpa using e)
        exact ⟨t, by rw [e']; congr 2; omega⟩
  have := key acc.toList 0 fun j v e => by
    obtain ⟨t, e'⟩ := hi j v (by simpa using e)
    exact ⟨t, by rw [e', Int.mul_one, Nat.zero_add]⟩
  rw [Array.length_toList, hs, ← List.range_eq_range'] at this
  exact this
def rListRng : List V → Hp → VK → Prop := fun vs H Q => ∃ a lo hi, vs = [.ref a] ∧ H a = some (.rng lo hi) ∧ (-(2 ^ 62) ≤ lo ∧ lo < 2 ^ 62 ∧ -(2 ^ 62) ≤ hi ∧ hi < 2 ^ 62) ∧ (hi - lo).toNat ≤ 2 ^ 20 ∧ ∀ p, H p = none → Q (.ref p) (upd H p (.lst (rngV lo (hi - lo).toNat)))
theorem call_listRng (hc : X.calm = true) : CallR X (.type "list") rListRng := by
  intro pins s σ H xs us Q I r h
  obtain ⟨a, lo, hi, rfl, ha, ⟨h1, h2, h3, h4⟩, hn, q⟩ := h
  obtain ⟨u, rfl, ru⟩ := vals1 r
  cases ru
  obtain ⟨t, u, v, e⟩ := (show ObjOk X.prog X.w H s.heap a (.rng lo hi) from I.hok a _ ha)
  refine call_list_range (n := (hi - lo).toNat) (I.ok.hd hc) e (small_one h1 h2 h3 h4) (by rw [rangeSize_one]; split <;> omega) (by omega) fun h' tk acc c hk hS hacc => ?_
  have hv := vals_items hacc
  have hlen : (rngV lo (hi - lo).toNat).length ≤ sizeLine := by
    unfold rngV
    rw [List.length_map, List.length_range]
    exact Nat.le_trans hn (by decide)
  exact ⟨.ref s.heap.objs.size, _, I.laid hk (Nat.le_refl _) (show ObjOk X.prog X.w _ _ _ (.lst (rngV lo (hi - lo).toNat)) from ⟨hlen, acc.toList, c, hv, by simpa using hS⟩), rfl, q _ (I.hok.fresh (Nat.le_refl _))⟩
theorem Inv.turnL {pins : List (Addr × Obj)} {σ : St} {H : Hp} {s : Shared} {h' : Heap} {t' : Nat} {ch : List Addr} (I : Inv X pins σ H s) (hf : ∀ b ∈ ch, FpOk X pins H b) (k : ∀ b o, b ∉ ch → s.heap.get? b = some o → h'.get? b = some o) :
    Inv X pins σ H { s with heap := h', toks := t' } := by
  have nch : ∀ b u, H b = some u → b ∉ ch := fun b u e z => by rw [(hf b z).1] at e; cases e
  refine I.step (g' := s.gens) (d' := s.drawn) (ch := ch) (fun b hb => ?_) (fun b o _ _ hc e _ => k b o hc e) (fun b o _ _ hc e _ => ⟨o.slots, k b o hc e⟩) (fun _ _ _ _ n => n) (fun b o hc e => ⟨o, k b o hc e⟩) (fun _ _ e => e) (fun _ _ _ e => e)
    (fun b ps e => ⟨#[], by rw [e]; simp⟩) (fun m hm => ?_) (fun b u e => ?_) I.bare
  · obtain ⟨_, f1, _, f3, f4, f5⟩ := hf b hb
    exact ⟨f3, f1, f4, f5⟩
  · obtain ⟨o, es, ep, ho, r⟩ := hm
    exact ⟨o, es, ep, k _ o (fun z => (hf _ z).2.1 rfl) ho, r⟩
  · refine (I.hok b u e).stay (fun c v hc q => k c v ?_ q) (fun _ q => q) fun _ _ q => q
    rcases hc with z | z
    · rw [z]; exact nch b u e
    · exact nch c _ z
theorem Inv.turnNew {pins : List (Addr × Obj)} {σ : St} {H : Hp} {s : Shared} {h' : Heap} {t' : Nat} {ch : List Addr} {T : Addr} {o' : HO} (I : Inv X pins σ H s) (hf : ∀ b ∈ ch, FpOk X pins H b)
    (k : ∀ b o, b ∉ ch → s.heap.get? b = some o → h'.get? b = some o) (hk2 : ∀ b o, s.heap.get? b = some o → ∃ o', h'.get? b = some o') (hT : s.heap.objs.size ≤ T) (new : ObjOk X.prog X.w (upd H T o') h' T o') :
    Inv X pins σ (upd H T o') { s with heap := h', toks := t' } := by
  have nch : ∀ b u, H b = some u → b ∉ ch := fun b u e z => by rw [(hf b z).1] at e; cases e
  have hTn : H T = none := I.hok.fresh hT
  have neT : ∀ b o, s.heap.get? b = some o → b ≠ T := fun b o e => Nat.ne_of_lt (Nat.lt_of_lt_of_le (Heap.lt_size e) hT)
  refine I.step (g' := s.gens) (d' := s.drawn) (ch := ch) (fun b hb => ?_) (fun b o _ _ hc e _ => k b o hc e) (fun b o _ _ hc e _ => ⟨o.slots, k b o hc e⟩) (fun b o _ e n => by rw [upd_ne (neT b o e)]; exact n) (fun b o hc e => ⟨o, k b o hc e⟩)
    (fun b xs e => by rw [upd_ne (ne_of_none e hTn)]; exact e) (fun b u xs e => by rw [upd_ne (ne_of_none e hTn)]; exact e) (fun b ps e => ⟨#[], by rw [upd_ne (ne_of_none e hTn), e]; simp⟩) (fun m hm => ?_) (fun b u e => ?_) I.bare
  · obtain ⟨_, f1, _, f3, f4, f5⟩ := hf b hb
    exact ⟨f3, f1, f4, f5⟩
  · obtain ⟨o, es, ep, ho, r⟩ := hm
    exact ⟨o, es, ep, k _ o (fun z => (hf _ z).2.1 rfl) ho, r⟩
  · by_cases hb : b = T
    · subst hb; rw [upd_same] at e; cases e; exact new
    · rw [upd_ne hb] at e
      refine (I.hok b u e).stay (fun c v hc q => k c v ?_ q) (fun c q => by rw [upd_ne (ne_of_none q hTn)]; exact q) fun c xs q => by rw [upd_ne (ne_of_none q hTn)]; exact q
      rcases hc with z | z
      · rw [z]; exact nch b u e
      · exact nch c _ z
end
def Itz (K : PySem.W.Frag) (a b : Addr) : It :=
  ⟨fun i H => ∃ xs ys x y, SqL K H a xs ∧ SqL K H b ys ∧ xs[i]? = some x ∧ ys[i]? = some y,
   fun i H v H' => ∃ x y p, (∀ xs, SqL K H a xs → xs[i]? = some x) ∧ (∀ ys, SqL K H b ys → ys[i]? = some y) ∧ v = .ref p ∧ H p = none ∧ H' = upd H p (.tup [x, y]),
   fun i H => ∃ xs ys, SqL K H a xs ∧ SqL K H b ys ∧ (xs.length ≤ i ∨ ys.length ≤ i)⟩
theorem zip_obj {h : Heap} {a b z TI TO i1 i2 : Addr} {i : Nat} (st : IsZip h z TI TO .none ∧ IsPair h TI (.ref i1) (.ref i2) ∧ (∃ x y, IsPair h TO x y) ∧ h.IsListIter i1 a i ∧ h.IsListIter i2 b i) : ∀ c ∈ [z, TI, TO, i1, i2], ∃ o, h.get? c = some o ∧ ∀ v, o.data ≠ .cell v := fun c hc => by
  obtain ⟨hz, hTI, ⟨x, y, hTO⟩, ⟨o1, e1, c1, d1⟩, ⟨o2, e2, c2, d2⟩⟩ := st
  simp only [List.mem_cons, List.not_mem_nil, or_false] at hc
  rcases hc with rfl | rfl | rfl | rfl | rfl
  · exact ⟨_, hz, fun v q => by have q' : Data.fields _ = Data.cell v := q; cases q'⟩
  · exact ⟨_, hTI, fun v q => by have q' : Data.seq _ _ = Data.cell v := q; cases q'⟩
  · exact ⟨_, hTO, fun v q => by have q' : Data.seq _ _ = Data.cell v := q; cases q'⟩
  · exact ⟨o1, e1, fun v q => by rw [d1] at q; cases q⟩
  · exact ⟨o2, e2, fun v q => by rw [d2] at q; cases q⟩
theorem turn_zip {P : Program} {w : World} {K : PySem.W.Frag} {elts : List Expr} {k : Nat} {pos : Pos} (a b z TI TO i1 i2 : Addr) (D : ZipApart z TI TO i1 i2 a b) : Turn P w K (.Tuple elts k pos) (Itz K a b) [z, TI, TO, i1, i2] z
    (fun i h => IsZip h z TI TO .none ∧ IsPair h TI (.ref i1) (.ref i2) ∧ (∃ x y, IsPair h TO x y) ∧ h.IsListIter i1 a i ∧ h.IsListIter i2 b i) where
  mem := by simp
  obj := fun i h st => zip_obj st
  keep := fun i h h' st k => by
    obtain ⟨hz, hTI, ⟨x, y, hTO⟩, h1, h2⟩ := st
    exact ⟨k z (by simp) _ hz, k TI (by simp) _ hTI, ⟨x, y, k TO (by simp) _ hTO⟩, h1.at fun o e => k i1 (by simp) o e, h2.at fun o e => k i2 (by simp) o e⟩
  item := by
    intro X hP hw hK hc i pins s σ H E I hf st hg
    subst hP hw hK
    obtain ⟨xs, ys, x, y, hx, hy, ex, ey⟩ := hg
    obtain ⟨us, r1, p1, _⟩ := I.list hx
    obtain ⟨vs, r2, p2, _⟩ := I.list hy
    obtain ⟨u, hu, ru⟩ := r1.get ex
    obtain ⟨v, hv, rv⟩ := r2.get ey
    obtain ⟨hz, hTI, ⟨ta, tb, hTO⟩, h1, h2⟩ := id st
    refine wpAny_pyNext_zip_item D hz hTI hTO h1 h2 p1.isList p2.isList (x := u) (y := v) (by simpa using hu) (by simpa using hv) fun h' a1 a2 a3 a4 a5 a6 a7 => ?_
    refine ⟨_, rfl, wpAny_letOwnedTupleGo_zip (s := { s with heap := h' }) a1 fun h'' b1 b2 => ?_⟩
    have b2' : Heap.SameBut z h' h'' := b2
    have ne : ∀ c ∈ [z, TI, TO, i1, i2], c < s.heap.objs.size := fun c hc => by
      obtain ⟨o, e, _⟩ := zip_obj st c hc
      exact Heap.lt_size e
    have kk : ∀ c o, c ∉ [z, TI, TO, i1, i2] → s.heap.get? c = some o → h''.get? c = some o := fun c o hc e => by
      simp only [List.mem_cons, List.not_mem_nil, or_false, not_or] at hc
      exact (b2'.2 c hc.1).trans (a7 c o hc.1 hc.2.2.1 hc.2.2.2.1 hc.2.2.2.2 e)
    have hT : h''.get? s.heap.objs.size = some { cls := .type "tuple", data := .seq #[u, v] } := (b2'.2 _ (Nat.ne_of_gt (ne z (by simp)))).trans a5
    have I1 : Inv X pins σ (upd H s.heap.objs.size (.tup [x, y])) { s with heap := h'' } := by
      refine I.turnNew (t' := s.toks) (ch := [z, TI, TO, i1, i2]) hf kk (fun c o e => ?_) (Nat.le_refl _) (show ObjOk X.prog X.w _ h'' _ (.tup [x, y]) from ⟨by show 2 ≤ sizeLine; decide, [u, v], .cons ru (.cons rv .nil), ⟨_, hT, rfl, _, rfl⟩⟩)
      by_cases hc : c ∈ [z, TI, TO, i1, i2]
      · simp only [List.mem_cons, List.not_mem_nil, or_false] at hc
        rcases hc with rfl | rfl | rfl | rfl | rfl
        · exact ⟨_, b1⟩
        · exact ⟨_, (b2'.2 _ D.TIz).trans (a7 _ _ D.TIz D.TITO D.TIi1 D.TIi2 hTI)⟩
        · exact ⟨_, (b2'.2 _ D.TOz).trans a2⟩
        · obtain ⟨o1, e1, _⟩ := a3; exact ⟨_, (b2'.2 _ D.i1z).trans e1⟩
        · obtain ⟨o2, e2, _⟩ := a4; exact ⟨_, (b2'.2 _ D.i2z).trans e2⟩
      · exact ⟨_, kk c o hc e⟩
    refine ⟨.ref s.heap.objs.size, _, I1, rfl, ⟨x, y, _, fun zs hz => by rw [I.list_inj hz hx]; exact ex, fun zs hz => by rw [I.list_inj hz hy]; exact ey, rfl, I.hok.fresh (Nat.le_refl _), rfl⟩, ⟨b1, (b2'.2 _ D.TIz).trans (a7 _ _ D.TIz D.TITO D.TIi1 D.TIi2 hTI), ⟨u, v, (b2'.2 _ D.TOz).trans a2⟩, a3.at fun o e => (b2'.2 _ D.i1z).trans e, a4.at fun o e => (b2'.2 _ D.i2z).trans e⟩, fun c hc => ?_⟩
    rw [upd_ne (Nat.ne_of_lt (ne c hc))]; exact (hf c hc).1
  done := by
    intro X hP hw hK hc i pins s σ H E I hf st hg
    subst hP hw hK
    obtain ⟨xs, ys, hx, hy, hl⟩ := hg
    obtain ⟨us, r1, p1, _⟩ := I.list hx
    obtain ⟨vs, r2, p2, _⟩ := I.list hy
    obtain ⟨hz, hTI, ⟨ta, tb, hTO⟩, h1, h2⟩ := id st
    have l1 := r1.length
    have l2 := r2.length
    refine wpAny_pyNext_zip_end (I.ok.hd hc) D hz hTI hTO h1 h2 p1.isList p2.isList ?_ fun h' kk => ⟨rfl, I.turnL (t' := s.toks) (ch := [z, TI, TO, i1, i2]) hf fun c o hc e => ?_⟩
    · rcases hl with hl | hl
      · exact .inl (by simp; omega)
      · exact .inr (by simp; omega)
    · simp only [List.mem_cons, List.not_mem_nil, or_false, not_or] at hc
      exact kk c o hc.1 hc.2.2.1 hc.2.2.2.1 hc.2.2.2.2 e
  self := fun _ _ _ _ _ st h => wpAny_pyIter_zip st.1 h
section
variable {X : Cx}
def iZip (K : PySem.W.Frag) (ta : TA) : TI := fun σ H R => ta σ H fun vs H1 => ∃ a b, vs = [.ref a, .ref b] ∧ (∃ xs, SqL K H1 a xs) ∧ (∃ ys, SqL K H1 b ys) ∧ R (Itz K a b) H1
theorem boot_zip : bootBuiltins "zip" = some (.type "zip") := by kernel_rfl
theorem pi_zip {elts : List Expr} {k : Nat} {tpos : Pos} {a b : Expr} {ta : TA} {p pos : Pos} (hg : Gl X "zip") (hm : X.mg "zip" = none) (ha : PA X [a, b] ta) (hs : starEach [a, b] X.env = [(false, eval a X.env), (false, eval b X.env)] := by rfl)
    (hs2 : starEach [b] X.env = [(false, eval b X.env)] := by rfl) : PI X (.Tuple elts k tpos) (.Call (.Name "zip" p) [a, b] [] pos) (iZip X.K ta) := by
  intro pins s σ H R I h
  refine Call_ (ld_blt I hg hm boot_zip (PyProof.Rows.callWith_type1 (thn (ha pos pins s σ H _ I h) fun us s1 ⟨vs, H1, I1, r1, q1⟩ => ?_) (by rw [hs, hs2]) (by rw [hs2]; rfl)))
  obtain ⟨l1, l2, e, ⟨xs, hx⟩, ⟨ys, hy⟩, q⟩ := q1
  subst e
  cases r1 with
  | cons r rr =>
    cases rr with
    | cons r' rr =>
      cases rr
      cases r
      cases r'
      obtain ⟨us, _, p1, _⟩ := I1.list hx
      obtain ⟨vs, _, p2, _⟩ := I1.list hy
      have a1 : l1 < s1.heap.objs.size := by obtain ⟨o, e, _⟩ := p1.isList; exact Heap.lt_size e
      have a2 : l2 < s1.heap.objs.size := by obtain ⟨o, e, _⟩ := p2.isList; exact Heap.lt_size e
      refine call_zip_2 p1.isList p2.isList fun h' hz hTI hTO hi1 hi2 hsz hk => wpAny_pyIter_zip (s := { s1 with heap := h' }) hz ?_
      have I2 : Inv X pins σ H1 { s1 with heap := h' } := I1.kept (t' := s1.toks) hk
      refine ⟨_, [s1.heap.objs.size + 4, s1.heap.objs.size + 2, s1.heap.objs.size + 3, s1.heap.objs.size, s1.heap.objs.size + 1], _, _, H1, rfl, I2, turn_zip l1 l2 _ _ _ _ _ (zipApart_new a1 a2), ⟨hz, hTI, ⟨_, _, hTO⟩, hi1, hi2⟩, fun c hc => ?_, q⟩
      have hle : s1.heap.objs.size ≤ c := by
        simp only [List.mem_cons, List.not_mem_nil, or_false] at hc
        rcases hc with rfl | rfl | rfl | rfl | rfl <;> omega
      exact I1.fpOk hle (I1.hok.fresh hle)
end
theorem lc_zip {K : PySem.W.Frag} {a b : Addr} {H1 : Hp} {xs ys : List V} {js : List Nat} {σ : St} {te : TE} {Q : VK} (hx : SqL K H1 a xs) (hy : SqL K H1 b ys) (hl : xs.length < sizeLine) (f : V → V → V)
    (he : ∀ x y, (x, y) ∈ xs.zip ys → ∀ H, Same H1 H → ∀ R : VK, (∀ H', Same H H' → R (f x y) H') → te (some x :: some y :: js.map fun j => (σ[j]?).join) H R)
    (q : ∀ D H, H1 D = none → Same H1 H → H D = some (.lst ((xs.zip ys).map fun p => f p.1 p.2)) → Q (.ref D) H) : LcTurns (gTup K 2 (gCons (gName 0) (gCons (gName 1) gNil))) tYes te (blkSt 2 js σ) (Itz K a b) H1 Q := by
  intro D hD
  refine ⟨fun i m zs σ1 H => m = (xs.zip ys).length - i ∧ i ≤ (xs.zip ys).length ∧ (∃ o1 o2, σ1 = o1 :: o2 :: js.map fun j => (σ[j]?).join) ∧ zs = ((xs.zip ys).take i).map (fun p => f p.1 p.2) ∧ Same H1 H ∧ H D = some (.lst zs),
    ⟨(xs.zip ys).length, by simp, Nat.zero_le _, ⟨none, none, rfl⟩, by simp, (Same.refl H1).upd_new hD, upd_same⟩, ?_⟩
  rintro i m zs σ1 H ⟨rfl, hi, ⟨o1, o2, rfl⟩, rfl, sH, hL⟩
  have hzl : (xs.zip ys).length = min xs.length ys.length := List.length_zip
  have hlen : (((xs.zip ys).take i).map fun p => f p.1 p.2).length < sizeLine := by
    rw [List.length_map, List.length_take]; omega
  refine ⟨hL, hlen, ?_⟩
  by_cases hlt : i < (xs.zip ys).length
  · have h1 : i < xs.length := by omega
    have h2 : i < ys.length := by omega
    refine .inr ⟨⟨xs, ys, xs[i], ys[i], sH.seq hx, sH.seq hy, by simp [h1], by simp [h2]⟩, fun v H' hyl => ?_⟩
    obtain ⟨x, y, p, hx', hy', rfl, hp, rfl⟩ := hyl
    have ex := hx' xs (sH.seq hx)
    have ey := hy' ys (sH.seq hy)
    have ez : (xs.zip ys)[i]? = some (x, y) := zip_get ex ey
    have hm : (x, y) ∈ xs.zip ys := List.mem_of_getElem? ez
    have htk : (xs.zip ys).take (i + 1) = (xs.zip ys).take i ++ [(x, y)] := by rw [List.take_add_one, ez]; rfl
    have hpD : D ≠ p := ne_of_none hL hp
    refine ⟨p, [x, y], rfl, SqT.of upd_same, rfl, x, [y], rfl, y, [], rfl, rfl, ?_⟩
    show te (some x :: some y :: js.map fun j => (σ[j]?).join) _ _
    have s1 : Same H1 (upd H p (.tup [x, y])) := sH.upd_new (sH.free hp)
    refine he x y hm _ s1 _ fun H4 s4 => ?_
    refine ⟨s4 _ _ (by rw [upd_ne hpD]; exact hL), (xs.zip ys).length - (i + 1), by omega, rfl, hlt, ⟨_, _, rfl⟩, ?_, (s1.trans s4).upd_new hD, upd_same⟩
    rw [htk, List.map_append]; rfl
  · have e : i = (xs.zip ys).length := by omega
    subst e
    refine .inl ⟨⟨xs, ys, sH.seq hx, sH.seq hy, by omega⟩, q D H hD sH ?_⟩
    rw [List.take_length] at hL; exact hL
end L2

namespace L2
open PySem PySem.Spec PyProof.Rows
section
variable {X : Cx}
def nw (H : Hp) (o : HO) (Q : VK) : Prop := ∀ p H', H p = none → Same H H' → H' p = some o → Q (.ref p) H'
theorem same_upd {H : Hp} {a : Addr} {o : HO} (hn : H a = none) : Same H (upd H a o) := fun b u e => by rw [upd_ne (ne_of_none e hn)]; exact e
theorem nw.go {H : Hp} {o : HO} {Q : VK} (h : nw H o Q) (p : Addr) (hp : H p = none) : Q (.ref p) (upd H p o) := h p _ hp (same_upd hp) upd_same
def rAddX : R2 := fun x y H Q => match x, y with
  | .int i, .int j => Q (.int (i + j)) H
  | .str a, .str b => a.length + b.length ≤ sizeLine ∧ Q (.str (a ++ b)) H
  | .ref l, .ref b => ∃ xs zs, H l = some (.lst xs) ∧ H b = some (.lst zs) ∧ xs.length + zs.length ≤ sizeLine ∧ nw H (.lst (xs ++ zs)) Q
  | _, _ => False
theorem op_addX : OpR X (binaryOp .Add) rAddX := by
  intro pins s σ H x y v u Q I rx ry h
  cases x with
  | int i => cases y with
    | int j => exact op_add pins s σ H _ _ v u Q I rx ry ⟨_, _, rfl, rfl, h⟩
    | _ => exact False.elim h
  | str a => cases y with
    | str b => exact op_add_str pins s σ H _ _ v u Q I rx ry ⟨_, _, rfl, rfl, h.1, h.2⟩
    | _ => exact False.elim h
  | ref l => cases y with
    | ref b =>
      obtain ⟨xs, zs, h1, h2, h3, h4⟩ := h
      exact op_cat pins s σ H _ _ v u Q I rx ry ⟨_, _, xs, zs, rfl, rfl, h1, h2, h3, h4.go⟩
    | _ => exact False.elim h
  | _ => exact False.elim h
def rSubX : R2 := fun x y H Q => match x, y with
  | .int i, .int j => Q (.int (i - j)) H
  | _, _ => False
theorem op_subX : OpR X (binaryOp .Sub) rSubX := by
  intro pins s σ H x y v u Q I rx ry h
  cases x with
  | int i => cases y with
    | int j => exact op_sub pins s σ H _ _ v u Q I rx ry ⟨_, _, rfl, rfl, h⟩
    | _ => exact False.elim h
  | _ => exact False.elim h
def rMulX : R2 := fun x y H Q => match x, y with
  | .int i, .int j => CBig i j ∧ Q (.int (i * j)) H
  | .ref l, .int k => ∃ xs, H l = some (.lst xs) ∧ -(2 ^ 63) ≤ k ∧ k < 2 ^ 63 ∧ xs.length * k.toNat ≤ sizeLine ∧ nw H (.lst (List.replicate k.toNat xs).flatten) Q
  | _, _ => False
theorem op_mulX : OpR X (binaryOp .Mult) rMulX := by
  intro pins s σ H x y v u Q I rx ry h
  cases x with
  | int i => cases y with
    | int j => exact op_mulZ pins s σ H _ _ v u Q I rx ry ⟨_, _, rfl, rfl, h.1, h.2⟩
    | _ => exact False.elim h
  | ref l => cases y with
    | int k =>
      obtain ⟨xs, h1, h2, h3, h4, h5⟩ := h
      exact op_rep pins s σ H _ _ v u Q I rx ry ⟨_, _, xs, rfl, rfl, h1, h2, h3, h4, h5.go⟩
    | _ => exact False.elim h
  | _ => exact False.elim h
def rFdivX : R2 := fun x y H Q => match x, y with
  | .int i, .int j => (0 < j ∧ j < 2 ^ 1000) ∧ Q (.int (i / j)) H
  | _, _ => False
theorem op_fdivX : OpR X (binaryOp .FloorDiv) rFdivX := by
  intro pins s σ H x y v u Q I rx ry h
  cases x with
  | int i => cases y with
    | int j => exact op_fdivZ pins s σ H _ _ v u Q I rx ry ⟨_, _, rfl, rfl, h.1, h.2⟩
    | _ => exact False.elim h
  | _ => exact False.elim h
def rModX : R2 := fun x y H Q => match x, y with
  | .int i, .int j => 0 < j ∧ Q (.int (i % j)) H
  | _, _ => False
theorem op_modX : OpR X (binaryOp .Mod) rModX := by
  intro pins s σ H x y v u Q I rx ry h
  cases x with
  | int i => cases y with
    | int j => exact op_mod pins s σ H _ _ v u Q I rx ry ⟨_, _, rfl, rfl, h.1, h.2⟩
    | _ => exact False.elim h
  | _ => exact False.elim h
def rPowX : R2 := fun x y H Q => match x, y with
  | .int i, .int j => (0 ≤ j ∧ j ≤ 1000000 ∧ i.natAbs < 2 ^ 64) ∧ Q (.int (i ^ j.toNat)) H
  | _, _ => False
theorem op_powX : OpR X (binaryOp .Pow) rPowX := by
  intro pins s σ H x y v u Q I rx ry h
  cases x with
  | int i => cases y with
    | int j => exact op_pow pins s σ H _ _ v u Q I rx ry ⟨_, _, rfl, rfl, h.1, h.2⟩
    | _ => exact False.elim h
  | _ => exact False.elim h
def rCmpX (f : Int → Int → Bool) : R2 := fun x y H Q => match x, y with
  | .int i, .int j => Q (.bl (f i j)) H
  | _, _ => False
theorem op_cmpX {op : CmpOp} {f : Int → Int → Bool} (h0 : OpR X (compareOp op) (rI0 fun i j => .bl (f i j))) : OpR X (compareOp op) (rCmpX f) := by
  intro pins s σ H x y v u Q I rx ry h
  cases x with
  | int i => cases y with
    | int j => exact h0 pins s σ H _ _ v u Q I rx ry ⟨_, _, rfl, rfl, h⟩
    | _ => exact False.elim h
  | _ => exact False.elim h
abbrev rLtX : R2 := rCmpX fun i j => decide (i < j)
abbrev rLeX : R2 := rCmpX fun i j => decide (i ≤ j)
abbrev rGeX : R2 := rCmpX fun i j => decide (j ≤ i)
theorem op_ltX : OpR X (compareOp .Lt) rLtX := op_cmpX op_lt
theorem op_leX : OpR X (compareOp .LtE) rLeX := op_cmpX op_le
theorem op_geX : OpR X (compareOp .GtE) rGeX := op_cmpX op_ge
def rEqX (K : PySem.W.Frag) : R2 := fun x y H Q => match x, y with
  | .int i, .int j => Q (.bl (decide (i = j))) H
  | .bl i, .bl j => Q (.bl (decide (i = j))) H
  | .str i, .str j => Q (.bl (decide (i = j))) H
  | .ref a, .ref b => ∃ xs ys, SqL K H a xs ∧ SqL K H b ys ∧ xs.all flatV = true ∧ ys.all flatV = true ∧ Q (.bl (eqVs xs ys)) H
  | _, _ => False
def rNeX (K : PySem.W.Frag) : R2 := fun x y H Q => match x, y with
  | .int i, .int j => Q (.bl (!decide (i = j))) H
  | .bl i, .bl j => Q (.bl (!decide (i = j))) H
  | .str i, .str j => Q (.bl (!decide (i = j))) H
  | .ref a, .ref b => ∃ xs ys, SqL K H a xs ∧ SqL K H b ys ∧ xs.all flatV = true ∧ ys.all flatV = true ∧ Q (.bl (!eqVs xs ys)) H
  | _, _ => False
theorem decV_int (i j : Int) : decide (V.int i = V.int j) = decide (i = j) := by
  by_cases e : i = j
  · subst e; simp
  · rw [decide_eq_false e]; exact decide_eq_false fun h => e (V.int.inj h)
theorem decV_bl (i j : Bool) : decide (V.bl i = V.bl j) = decide (i = j) := by
  by_cases e : i = j
  · subst e; simp
  · rw [decide_eq_false e]; exact decide_eq_false fun h => e (V.bl.inj h)
theorem decV_str (i j : Str) : decide (V.str i = V.str j) = decide (i = j) := by
  by_cases e : i = j
  · subst e; simp
  · rw [decide_eq_false e]; exact decide_eq_false fun h => e (V.str.inj h)
theorem op_eqX (hu : X.A.units < cLine) : OpR X (compareOp .Eq) (rEqX X.K) := by
  intro pins s σ H x y v u Q I rx ry h
  cases x with
  | int i => cases y with
    | int j => exact op_eq pins s σ H _ _ v u Q I rx ry ⟨rfl, by rw [decV_int]; exact h⟩
    | _ => exact False.elim h
  | bl i => cases y with
    | bl j => exact op_eq pins s σ H _ _ v u Q I rx ry ⟨rfl, by rw [decV_bl]; exact h⟩
    | _ => exact False.elim h
  | str i => cases y with
    | str j => exact op_eq pins s σ H _ _ v u Q I rx ry ⟨rfl, by rw [decV_str]; exact h⟩
    | _ => exact False.elim h
  | ref a => cases y with
    | ref b =>
      obtain ⟨xs, ys, h1, h2, h3, h4, h5⟩ := h
      exact op_eqL hu pins s σ H _ _ v u Q I rx ry ⟨_, _, xs, ys, rfl, rfl, h1, h2, h3, h4, h5⟩
    | _ => exact False.elim h
  | _ => exact False.elim h
theorem op_neX (hu : X.A.units < cLine) : OpR X (compareOp .NotEq) (rNeX X.K) := by
  intro pins s σ H x y v u Q I rx ry h
  cases x with
  | int i => cases y with
    | int j => exact op_ne pins s σ H _ _ v u Q I rx ry ⟨rfl, by rw [decV_int]; exact h⟩
    | _ => exact False.elim h
  | bl i => cases y with
    | bl j => exact op_ne pins s σ H _ _ v u Q I rx ry ⟨rfl, by rw [decV_bl]; exact h⟩
    | _ => exact False.elim h
  | str i => cases y with
    | str j => exact op_ne pins s σ H _ _ v u Q I rx ry ⟨rfl, by rw [decV_str]; exact h⟩
    | _ => exact False.elim h
  | ref a => cases y with
    | ref b =>
      obtain ⟨xs, ys, h1, h2, h3, h4, h5⟩ := h
      exact op_neL hu pins s σ H _ _ v u Q I rx ry ⟨_, _, xs, ys, rfl, rfl, h1, h2, h3, h4, h5⟩
    | _ => exact False.elim h
  | _ => exact False.elim h
def isV : V → V → Option Bool
  | .non, .non => some true
  | .bl _, .non => some false
  | .int _, .non => some false
  | .str _, .non => some false
  | .ref _, .non => some false
  | .bl a, .bl b => some (a == b)
  | _, _ => none
def rIsX (neg : Bool) : R2 := fun x y H Q => match isV x y with
  | some b => Q (.bl (b != neg)) H
  | none => False
theorem op_isX : OpR X (compareOp .Is) (rIsX false) := by
  intro pins s σ H x y v u Q I rx ry h
  cases x <;> cases y <;> first
    | exact False.elim h
    | exact op_isN pins s σ H _ _ v u Q I rx ry ⟨rfl, h⟩
    | exact op_is_bl pins s σ H _ _ v u Q I rx ry ⟨_, _, rfl, rfl, by simpa [rIsX, isV] using h⟩
theorem op_isnotX : OpR X (compareOp .IsNot) (rIsX true) := by
  intro pins s σ H x y v u Q I rx ry h
  cases x <;> cases y <;> first
    | exact False.elim h
    | exact op_notN pins s σ H _ _ v u Q I rx ry ⟨rfl, h⟩
    | exact op_isnot_bl pins s σ H _ _ v u Q I rx ry ⟨_, _, rfl, rfl, by simpa [rIsX, isV, bne] using h⟩
def Sq (K : PySem.W.Frag) (H : Hp) (a : Addr) (xs : List V) : Prop := SqL K H a xs ∨ SqT K H a xs
theorem Sq.l {K : PySem.W.Frag} {H : Hp} {a : Addr} {xs : List V} (h : H a = some (.lst xs)) : Sq K H a xs := .inl (.of h)
theorem Sq.t {K : PySem.W.Frag} {H : Hp} {a : Addr} {xs : List V} (h : H a = some (.tup xs)) : Sq K H a xs := .inr (.of h)
def rIxX (K : PySem.W.Frag) : R2 := fun x y H Q => match x, y with
  | .ref p, .int i => ∃ xs v, Sq K H p xs ∧ atI xs i = some v ∧ Q v H
  | .str z, .int i => z.length ≤ sizeLine ∧ ∃ c, atI z.cps.toList i = some c ∧ Q (.str ⟨#[c]⟩) H
  | _, _ => False
theorem ix_X : IxR X (rIxX X.K) := by
  intro value slice pins s σ H x y v u Q I rx ry h hs
  cases x with
  | ref p => cases y with
    | int i =>
      obtain ⟨xs, w', h1 | h1, h2, h3⟩ := h
      · exact ix_list value slice pins s σ H _ _ v u Q I rx ry ⟨_, xs, _, w', rfl, rfl, h1, h2, h3⟩ hs
      · exact ix_tup value slice pins s σ H _ _ v u Q I rx ry ⟨_, xs, _, w', rfl, rfl, h1, h2, h3⟩ hs
    | _ => exact False.elim h
  | str z => cases y with
    | int i =>
      obtain ⟨h1, c, h2, h3⟩ := h
      exact ix_str value slice pins s σ H _ _ v u Q I rx ry ⟨z, i, c, rfl, rfl, h1, h2, h3⟩ hs
    | _ => exact False.elim h
  | _ => exact False.elim h
def rLenX (K : PySem.W.Frag) : List V → Hp → VK → Prop := fun vs H Q => match vs with
  | [.str z] => z.length ≤ sizeLine ∧ Q (.int z.length) H
  | [.ref p] => ∃ xs, Sq K H p xs ∧ Q (.int xs.length) H
  | _ => False
theorem call_lenX : CallR X (.builtin "len") (rLenX X.K) := by
  intro pins s σ H xs us Q I r h
  match xs, h with
  | [.str z], h => exact call_len_str pins s σ H _ us Q I r ⟨z, rfl, h.1, h.2⟩
  | [.ref p], h =>
    obtain ⟨ys, h1, h2⟩ := h
    exact call_len_seq pins s σ H _ us Q I r ⟨p, ys, rfl, h1, h2⟩
def rAbsX : List V → Hp → VK → Prop := fun vs H Q => match vs with
  | [.int i] => Q (.int (i.natAbs : Int)) H
  | _ => False
theorem call_absX : CallR X (.builtin "abs") rAbsX := by
  intro pins s σ H xs us Q I r h
  match xs, h with
  | [.int i], h =>
    refine call_abs pins s σ H _ us Q I r ⟨i, rfl, ?_⟩
    have e : (if i < 0 then -i else i) = ((i.natAbs : Nat) : Int) := by split <;> omega
    rw [e]; exact h
def rMinX : List V → Hp → VK → Prop := fun vs H Q => match vs with
  | [.int i, .int j] => Q (.int (min i j)) H
  | _ => False
def rMaxX : List V → Hp → VK → Prop := fun vs H Q => match vs with
  | [.int i, .int j] => Q (.int (max i j)) H
  | _ => False
theorem call_minX (hc : X.calm = true) : CallR X (.builtin "min") rMinX := by
  intro pins s σ H xs us Q I r h
  match xs, h with
  | [.int i, .int j], h =>
    refine call_min2 hc pins s σ H _ us Q I r ⟨i, j, rfl, ?_⟩
    have e : (if j < i then j else i) = min i j := by
      rw [Int.min_def]; split <;> split <;> omega
    rw [e]; exact h
theorem call_maxX (hc : X.calm = true) : CallR X (.builtin "max") rMaxX := by
  intro pins s σ H xs us Q I r h
  match xs, h with
  | [.int i, .int j], h =>
    refine call_max2 hc pins s σ H _ us Q I r ⟨i, j, rfl, ?_⟩
    have e : (if j > i then j else i) = max i j := by
      rw [Int.max_def]; split <;> split <;> omega
    rw [e]; exact h
def rListX (K : PySem.W.Frag) : List V → Hp → VK → Prop := fun vs H Q => match vs with
  | [.ref a] => ∃ ys, (Sq K H a ys ∨ ∃ lo hi, H a = some (.rng lo hi) ∧ (-(2 ^ 62) ≤ lo ∧ lo < 2 ^ 62 ∧ -(2 ^ 62) ≤ hi ∧ hi < 2 ^ 62) ∧ (hi - lo).toNat ≤ 2 ^ 20 ∧ ys = rngV lo (hi - lo).toNat) ∧ nw H (.lst ys) Q
  | _ => False
theorem call_listX (hc : X.calm = true) : CallR X (.type "list") (rListX X.K) := by
  intro pins s σ H xs us Q I r h
  match xs, h with
  | [.ref a], h =>
    obtain ⟨ys, h1 | ⟨lo, hi, h1, h2, h3, rfl⟩, h4⟩ := h
    · exact call_list_of pins s σ H _ us Q I r ⟨a, ys, rfl, h1, h4.go⟩
    · exact call_listRng hc pins s σ H _ us Q I r ⟨a, lo, hi, rfl, h1, h2, h3, h4.go⟩
def rRngX : List V → Hp → VK → Prop := fun vs H Q => match vs with
  | [.int j] => nw H (.rng 0 j) Q
  | _ => False
theorem call_rngX : CallR X (.type "range") rRngX := by
  intro pins s σ H xs us Q I r h
  match xs, h with
  | [.int j], h => exact call_rng1 pins s σ H _ us Q I r ⟨j, rfl, nw.go h⟩
theorem bt_isinstance : bootBuiltins "isinstance" = some (.builtin "isinstance") := by kernel_rfl
theorem bt_abs : bootBuiltins "abs" = some (.builtin "abs") := by kernel_rfl
theorem bt_len : bootBuiltins "len" = some (.builtin "len") := by kernel_rfl
theorem bt_all : bootBuiltins "all" = some (.builtin "all") := by kernel_rfl
theorem bt_min : bootBuiltins "min" = some (.builtin "min") := by kernel_rfl
theorem bt_max : bootBuiltins "max" = some (.builtin "max") := by kernel_rfl
theorem bt_range : bootBuiltins "range" = some (.type "range") := by kernel_rfl
theorem bt_list : bootBuiltins "list" = some (.type "list") := by kernel_rfl
theorem bt_tuple : bootBuiltins "tuple" = some (.type "tuple") := by kernel_rfl
theorem bt_int : bootBuiltins "int" = some (.type "int") := by kernel_rfl
theorem bt_str : bootBuiltins "str" = some (.type "str") := by kernel_rfl
theorem bt_bool : bootBuiltins "bool" = some (.type "bool") := by kernel_rfl
theorem bt_set : bootBuiltins "set" = some (.type "set") := by kernel_rfl
theorem pe_ty {x : Str} {T : String} {pos : Pos} (hg : Gl X x) (hm : X.mg x = none) (hv : bootBuiltins x = some (.type T)) (hn : x ≠ "__name__" := by decide) (hd : (x == ("__debug__" : Str)) = false := by decide) : PE X (.Name x pos) (tC (.ty T)) :=
  pe_bltn hg hm hv rfl hn hd
structure Fnc (P : Program) (w : World) (K : PySem.W.Frag) (mg : Str → Option Value) (base : Heap) (CX : CXT) (k : Nat) (x : Str) (ps : List Str) (sp : Sp) : Prop where
  ex : ∃ (f : Addr) (fd : FuncData), FnOk P w K mg base CX k f fd ps sp ∧ mg x = some (.ref f) ∧ PySem.W.keepIn K (.ref f) = true ∧ Binds K fd ps []
theorem pe_callF {CX : CXT} {E : St → XK} {k : Nat} {x : Str} {ps : List Str} {sp : Sp} {e : Expr} {es : List Expr} {t : TA} {p pos : Pos} (C : Fnc X.prog X.w X.K X.mg X.base CX k x ps sp) (hx : Passes CX X E) (hr : Room k X.A) (hg : Gl X x) (ha : PA X (e :: es) t)
    (hd : (x == ("__debug__" : Str)) = false := by decide)
    (he : starEach (e :: es) X.env = (false, eval e X.env) :: starEach es X.env := by rfl) (hpl : (backTo pos (starEach es X.env)).any (·.1) = false := by rfl) : PE X (.Call (.Name x p) (e :: es) [] pos) (tCall sp [] E t) := by
  obtain ⟨f, fd, F, hm, hk, hb⟩ := C.ex
  exact pe_call F hr hg hm hk hb .nil hx ha hd he hpl
end
def ForTurns (g : TG) (tb : TS) (D : Ends) (J : It) (σ : St) (H : Hp) : Prop := ∃ W : Nat → Nat → St → Hp → Prop, (∃ m, W 0 m σ H) ∧ ∀ i m σ H, W i m σ H →
  (J.stop i H ∧ D.nx σ H) ∨ (J.go i H ∧ ∃ N : St → Hp → Prop, (∀ σ' H', N σ' H' → ∃ m', m' < m ∧ W (i + 1) m' σ' H') ∧ ∀ x H', J.yld i H x H' → g x σ H' fun σ2 H2 => tb { D with nx := N, ct := N, bk := D.nx } σ2 H2)
theorem for_rng {lo : Int} {n : Nat} {g : TG} {tb : TS} {D : Ends} {σ : St} {H : Hp} (Pv : Nat → St → Hp → Prop) (h0 : Pv 0 σ H)
    (hs : ∀ i σ H, i < n → Pv i σ H → g (.int (lo + i)) σ H fun σ2 H2 => tb { D with nx := Pv (i + 1), ct := Pv (i + 1), bk := D.nx } σ2 H2) (hd : ∀ σ H, Pv n σ H → D.nx σ H) : ForTurns g tb D (Itr lo n) σ H := for_range Pv h0 hs hd
theorem for_lst {K : PySem.W.Frag} {a : Addr} {xs : List V} {g : TG} {tb : TS} {D : Ends} {σ : St} {H : Hp} (Pv : Nat → St → Hp → Prop) (h0 : Pv 0 σ H) (hl : ∀ i σ H, i ≤ xs.length → Pv i σ H → SqL K H a xs)
    (hs : ∀ i x σ H, xs[i]? = some x → Pv i σ H → g x σ H fun σ2 H2 => tb { D with nx := Pv (i + 1), ct := Pv (i + 1), bk := D.nx } σ2 H2) (hd : ∀ σ H, Pv xs.length σ H → D.nx σ H) : ForTurns g tb D (Itl K a) σ H := for_list Pv h0 hl hs hd
def tLstX (t : TA) : TE := fun σ H Q => t σ H fun xs H1 => xs.length ≤ sizeLine ∧ nw H1 (.lst xs) Q
def tTupX (t : TA) : TE := fun σ H Q => t σ H fun xs H1 => xs.length ≤ sizeLine ∧ nw H1 (.tup xs) Q
def tDNewX : TE := fun _ H Q => nw H (.dK []) Q
theorem pe_lstX {X : Cx} {es : List Expr} {t : TA} {pos : Pos} (h : PA X es t) : PE X (.List es pos) (tLstX t) := by
  intro pins s σ H Q I hq
  refine wpAny_List_spliced (thn (h pos pins s σ H _ I hq) fun us s1 ⟨xs, H1, I1, r, z, q⟩ => ⟨by rw [← r.length]; exact z, ?_⟩)
  have hf : H1 s1.heap.objs.size = none := I1.hok.fresh (Nat.le_refl _)
  refine ⟨.ref s1.heap.objs.size, upd H1 s1.heap.objs.size (.lst xs), I1.laid (t' := s1.toks) (fun b u e => Heap.get?_push_of_some _ e) (Nat.le_refl _) ?_, rfl, nw.go q _ hf⟩
  exact ⟨z, us, 0, r, Heap.get?_push_size _ rfl⟩
theorem pe_tupX {X : Cx} {es : List Expr} {t : TA} {pos : Pos} {x1} (h : PA X es t) : PE X (.Tuple es x1 pos) (tTupX t) := by
  intro pins s σ H Q I hq
  refine wpAny_Tuple_spliced (thn (h pos pins s σ H _ I hq) fun us s1 ⟨xs, H1, I1, r, z, q⟩ => ⟨by rw [← r.length]; exact z, ?_⟩)
  have hf : H1 s1.heap.objs.size = none := I1.hok.fresh (Nat.le_refl _)
  refine ⟨.ref s1.heap.objs.size, upd H1 s1.heap.objs.size (.tup xs), I1.laid (t' := s1.toks) (fun b u e => Heap.get?_push_of_some _ e) (Nat.le_refl _) ?_, rfl, nw.go q _ hf⟩
  exact ⟨z, us, r, ⟨_, Heap.get?_push_size _ rfl, rfl, _, rfl⟩⟩
theorem pe_dnewX {X : Cx} {pos : Pos} : PE X (.Dict [] [] pos) tDNewX := fun pins s σ H Q I h => pe_dnewK pins s σ H Q I (nw.go h)
section
variable {σ : St} {H : Hp} {Q : VK} {D : Ends}
theorem ap_seq {t u : TS} : tSeq t u D σ H = t { D with nx := u D } σ H := propext Iff.rfl
theorem ap_asg {te : TE} {g : TG} : tAsg te g D σ H = te σ H fun x H1 => g x σ H1 D.nx := propext Iff.rfl
theorem ap_gname {i : Nat} {v : V} {R : St → Hp → Prop} : gName i v σ H R = R (σ.set i (some v)) H := propext Iff.rfl
theorem ap_var {i : Nat} : tVar i σ H Q = ∃ v, σ[i]? = some (some v) ∧ Q v H := propext Iff.rfl
theorem ap_c {v : V} : tC v σ H Q = Q v H := propext Iff.rfl
theorem ap_op {r : R2} {ta tb : TE} : tOp r ta tb σ H Q = ta σ H fun x H1 => tb σ H1 fun y H2 => r x y H2 Q := propext Iff.rfl
theorem ap_cb {r : List V → Hp → VK → Prop} {t : TA} : tCB r t σ H Q = t σ H fun vs H1 => r vs H1 Q := propext Iff.rfl
theorem ap_cons {ta : TE} {tr : TA} {R : List V → Hp → Prop} : tCons ta tr σ H R = ta σ H fun x H1 => tr σ H1 fun xs H2 => R (x :: xs) H2 := propext Iff.rfl
theorem ap_nil {R : List V → Hp → Prop} : tNil σ H R = R [] H := propext Iff.rfl
theorem ap_call {sp : Sp} {E : St → XK} {t : TA} : tCall sp [] E t σ H Q = t σ H fun vs H1 => sp vs H1 Q (E σ) := by
  show (t σ H fun vs H1 => sp (vs ++ []) H1 Q (E σ)) = _
  simp only [List.append_nil]
theorem ap_ret {te : TE} : tRet te D σ H = te σ H D.rt := propext Iff.rfl
theorem ap_if {c : TT} {t u : TS} : tIfS c t u D σ H = c σ H fun b H1 => if b = true then t D σ H1 else u D σ H1 := propext Iff.rfl
theorem ap_next : tNext D σ H = D.nx σ H := propext Iff.rfl
theorem ap_drop {te : TE} : tDrop te D σ H = te σ H fun _ H1 => D.nx σ H1 := propext Iff.rfl
theorem ap_test {t : TE} {R : Bool → Hp → Prop} : tTest t σ H R = t σ H fun x H' => ∃ k, x = .bl k ∧ R k H' := propext Iff.rfl
theorem ap_b {t : TE} {R : Bool → Hp → Prop} : tB t σ H R = t σ H fun x H' => ∃ k, x = .bl k ∧ R k H' := propext Iff.rfl
theorem ap_not {t : TT} {R : Bool → Hp → Prop} : tNot t σ H R = t σ H fun c H1 => R (!c) H1 := propext Iff.rfl
theorem ap_and {t u : TT} {R : Bool → Hp → Prop} : tAnd t u σ H R = t σ H fun c H1 => if c = true then u σ H1 R else R false H1 := propext Iff.rfl
theorem ap_or {t u : TT} {R : Bool → Hp → Prop} : tOr t u σ H R = t σ H fun c H1 => if c = true then R true H1 else u σ H1 R := propext Iff.rfl
theorem ap_andV {ta tb : TE} : tAndV ta tb σ H Q = ta σ H fun x H1 => ∃ c, x = .bl c ∧ if c = true then tb σ H1 Q else Q (.bl false) H1 := propext Iff.rfl
theorem ap_orV {ta tb : TE} : tOrV ta tb σ H Q = ta σ H fun x H1 => ∃ c, x = .bl c ∧ if c = true then Q (.bl true) H1 else tb σ H1 Q := propext Iff.rfl
theorem ap_notV {ta : TE} : tNotV ta σ H Q = ta σ H fun x H1 => ∃ c, x = .bl c ∧ Q (.bl (!c)) H1 := propext Iff.rfl
theorem ap_ifE {t : TT} {ta tb : TE} : tIf t ta tb σ H Q = t σ H fun c H1 => if c = true then ta σ H1 Q else tb σ H1 Q := propext Iff.rfl
theorem ap_lst {t : TA} : tLstX t σ H Q = t σ H fun xs H1 => xs.length ≤ sizeLine ∧ nw H1 (.lst xs) Q := propext Iff.rfl
theorem ap_tup {t : TA} : tTupX t σ H Q = t σ H fun xs H1 => xs.length ≤ sizeLine ∧ nw H1 (.tup xs) Q := propext Iff.rfl
theorem ap_dnew : tDNewX σ H Q = nw H (.dK []) Q := propext Iff.rfl
theorem ap_lc {k : Nat} {js : List Nat} {wi : TI} {g : TG} {tc : TT} {te : TE} : tLC k js wi g tc te σ H Q = wi σ H fun J H1 => LcTurns g tc te (blkSt k js σ) J H1 Q := propext Iff.rfl
theorem ap_sl {r : V → Option Int → Option Int → Hp → VK → Prop} {te : TE} {tl th : TO} : tSl r te tl th σ H Q = te σ H fun x H1 => tl σ H1 fun l H2 => th σ H2 fun u H3 => r x l u H3 Q := propext Iff.rfl
theorem ap_noPart {R : Option Int → Hp → Prop} : tNoPart σ H R = R none H := propext Iff.rfl
theorem ap_part {t : TE} {R : Option Int → Hp → Prop} : tPart t σ H R = t σ H fun x H1 => ∃ i, x = .int i ∧ R (some i) H1 := propext Iff.rfl
theorem ap_iRng1 {ta : TA} {R : It → Hp → Prop} : iRng1 ta σ H R = ta σ H fun vs H1 => ∃ j : Int, vs = [.int j] ∧ -(2 ^ 62) ≤ j ∧ j < 2 ^ 62 ∧ R (Itr 0 j.toNat) H1 := propext Iff.rfl
theorem ap_iRng2 {ta : TA} {R : It → Hp → Prop} : iRng2 ta σ H R = ta σ H fun vs H1 => ∃ i j : Int, vs = [.int i, .int j] ∧ (-(2 ^ 62) ≤ i ∧ i < 2 ^ 62 ∧ -(2 ^ 62) ≤ j ∧ j < 2 ^ 62) ∧ R (Itr i (j - i).toNat) H1 := propext Iff.rfl
theorem ap_iZip {K : PySem.W.Frag} {ta : TA} {R : It → Hp → Prop} : iZip K ta σ H R = ta σ H fun vs H1 => ∃ a b, vs = [.ref a, .ref b] ∧ (∃ xs, SqL K H1 a xs) ∧ (∃ ys, SqL K H1 b ys) ∧ R (Itz K a b) H1 := propext Iff.rfl
theorem ap_for {wi : TI} {g : TG} {tb : TS} : tFor wi g tb D σ H = wi σ H fun J H1 => ForTurns g tb D J σ H1 := propext Iff.rfl
theorem ap_par {i j : Nat} {ta : TA} : tPar i j ta D σ H = ta σ H fun vs H1 => ∃ v w, vs = [v, w] ∧ D.nx ((σ.set i (some v)).set j (some w)) H1 := propext Iff.rfl
theorem ap_bm {K : PySem.W.Frag} {T : String} {r : V → List V → Hp → VK → Prop} {to : TE} {t : TA} : tBM K T r to t σ H Q = to σ H fun x H1 => tyV K T x H1 ∧ t σ H1 fun xs H2 => r x xs H2 Q := propext Iff.rfl
theorem ap_chain {r r' : R2} {ta tb tc : TE} : tChain r r' ta tb tc σ H Q = ta σ H fun x H1 => tb σ H1 fun y H2 => r x y H2 fun z H3 => ∃ k, z = .bl k ∧ if k = true then tc σ H3 fun v H4 => r' y v H4 Q else Q (.bl false) H3 := propext Iff.rfl
theorem ex_bl {b : Bool} {P : Bool → Prop} : (∃ k, V.bl b = V.bl k ∧ P k) = P b := propext ⟨fun ⟨k, e, h⟩ => by cases e; exact h, fun h => ⟨b, rfl, h⟩⟩
theorem ex_int {b : Int} {P : Int → Prop} : (∃ k, V.int b = V.int k ∧ P k) = P b := propext ⟨fun ⟨k, e, h⟩ => by cases e; exact h, fun h => ⟨b, rfl, h⟩⟩
theorem ex_ref {b : Addr} {P : Addr → Prop} : (∃ k, V.ref b = V.ref k ∧ P k) = P b := propext ⟨fun ⟨k, e, h⟩ => by cases e; exact h, fun h => ⟨b, rfl, h⟩⟩
theorem ex_int1 {b : Int} {P : Int → Prop} : (∃ k, [V.int b] = [V.int k] ∧ P k) = P b := propext ⟨fun ⟨k, e, h⟩ => by cases e; exact h, fun h => ⟨b, rfl, h⟩⟩
theorem ex_int2 {b c : Int} {P : Int → Int → Prop} : (∃ k l, [V.int b, V.int c] = [V.int k, V.int l] ∧ P k l) = P b c := propext ⟨fun ⟨k, l, e, h⟩ => by cases e; exact h, fun h => ⟨b, c, rfl, h⟩⟩
theorem ex_ref2 {b c : Addr} {P : Addr → Addr → Prop} : (∃ k l, [V.ref b, V.ref c] = [V.ref k, V.ref l] ∧ P k l) = P b c := propext ⟨fun ⟨k, l, e, h⟩ => by cases e; exact h, fun h => ⟨b, c, rfl, h⟩⟩
theorem ex_two {b c : V} {P : V → V → Prop} : (∃ k l, [b, c] = [k, l] ∧ P k l) = P b c := propext ⟨fun ⟨k, l, e, h⟩ => by cases e; exact h, fun h => ⟨b, c, rfl, h⟩⟩
theorem ex_some {v : V} {P : V → Prop} : (∃ k, some (some v) = some (some k) ∧ P k) = P v := propext ⟨fun ⟨k, e, h⟩ => by cases e; exact h, fun h => ⟨v, rfl, h⟩⟩
theorem start_eq {N : List Str} {vs : List V} : start N vs = vs.map some ++ List.replicate (N.length - vs.length) none := rfl
end
inductive Tg where
  | non | bl | int | str | lst | tup | dct
  deriving DecidableEq
def Tg.name : Tg → String
  | .non => "NoneType" | .bl => "bool" | .int => "int" | .str => "str" | .lst => "list" | .tup => "tuple" | .dct => "dict"
def Tg.sub : Tg → Tg → Bool
  | .non, .non => true | .bl, .bl => true | .int, .int => true | .str, .str => true | .lst, .lst => true | .tup, .tup => true | .dct, .dct => true
  | .bl, .int => true
  | _, _ => false
def tagO : Option HO → Option Tg
  | some (.lst _) => some .lst | some (.frz _ (.lst _)) => some .lst | some (.tup _) => some .tup | some (.dK _) => some .dct | some (.dT _) => some .dct
  | _ => none
def tagV (H : Hp) : V → Option Tg
  | .non => some .non | .bl _ => some .bl | .int _ => some .int | .str _ => some .str | .ref a => tagO (H a)
  | _ => none
theorem kit_tags (K : PySem.W.Frag) : ∀ t c : Tg, c ≠ .non → PySem.W.kitOne K (.type t.name) (.type c.name) = some (t.sub c) := by
  intro t c h
  cases t <;> cases c <;> first
    | exact absurd rfl h
    | rfl
    | kernel_rfl
    | decide +kernel
theorem tag_ty {K : PySem.W.Frag} {H : Hp} {x : V} {t : Tg} (h : tagV H x = some t) : TyOf K H x (.type t.name) := by
  cases x with
  | non => cases h; exact .non
  | bl b => cases h; exact .bl b
  | int i => cases h; exact .int i
  | str z => cases h; exact .str z
  | ref a =>
    have h' : tagO (H a) = some t := h
    cases e : H a with
    | none => rw [e] at h'; cases h'
    | some o =>
      rw [e] at h'
      cases o with
      | lst xs => cases h'; exact .lst e
      | tup xs => cases h'; exact .tup e
      | dK kvs => cases h'; exact .dK e
      | dT kvs => cases h'; exact .dT e
      | frz ob u => cases u with
        | lst xs => cases h'; exact .frz e
        | _ => cases h'
      | _ => cases h'
  | _ => cases h
def rIsiC (c : Tg) : List V → Hp → VK → Prop := fun vs H Q => match vs with
  | [x, .ty n] => n = c.name ∧ ∃ t, tagV H x = some t ∧ Q (.bl (t.sub c)) H
  | _ => False
theorem call_isiC {X : Cx} (c : Tg) (hc : c ≠ .non := by decide) : CallR X (.builtin "isinstance") (rIsiC c) := by
  intro pins s σ H xs us Q I r h
  match xs, h with
  | [x, .ty n], h =>
    obtain ⟨rfl, t, ht, q⟩ := h
    exact call_isi pins s σ H _ us Q I r ⟨x, _, _, _, rfl, tag_ty ht, kit_tags X.K t c hc, q⟩
theorem while_x {c : TT} {tb : TS} {D : Ends} {σ : St} {H : Hp} (Pv : St → Hp → Prop) (μ : St → Hp → Nat) (h0 : Pv σ H)
    (hs : ∀ σ H, Pv σ H → c σ H fun b H1 => if b = true then ∃ N : St → Hp → Prop, (∀ σ' H', N σ' H' → Pv σ' H' ∧ μ σ' H' < μ σ H) ∧ tb { D with nx := N, ct := N, bk := D.nx } σ H1 else D.nx σ H1) : tWhile c tb D σ H :=
  ⟨fun m σ H => m = μ σ H ∧ Pv σ H, ⟨_, rfl, h0⟩, fun m σ H ⟨e, p⟩ => by
    subst e
    have q := hs σ H p
    have e : (fun (b : Bool) (H1 : Hp) => if b = true then ∃ N : St → Hp → Prop, (∀ σ' H', N σ' H' → Pv σ' H' ∧ μ σ' H' < μ σ H) ∧ tb { D with nx := N, ct := N, bk := D.nx } σ H1 else D.nx σ H1) =
        fun (b : Bool) (H1 : Hp) => if b = true then ∃ N : St → Hp → Prop, (∀ σ' H', N σ' H' → ∃ m', m' < μ σ H ∧ m' = μ σ' H' ∧ Pv σ' H') ∧ tb { D with nx := N, ct := N, bk := D.nx } σ H1 else D.nx σ H1 := by
      funext b H1
      cases b with
      | false => rfl
      | true =>
        simp only [if_true]
        refine propext ⟨fun ⟨N, h1, h2⟩ => ⟨N, fun σ' H' n => ⟨_, (h1 σ' H' n).2, rfl, (h1 σ' H' n).1⟩, h2⟩, fun ⟨N, h1, h2⟩ => ⟨N, fun σ' H' n => ?_, h2⟩⟩
        obtain ⟨m', h3, h4, h5⟩ := h1 σ' H' n
        exact ⟨h5, by rw [← h4]; exact h3⟩
    rw [e] at q
    exact q⟩
theorem cutV_drop (xs : List V) (k : Nat) : cutV xs (some (k : Int)) none = xs.drop k := by
  unfold cutV
  rw [HT.sIx_nat, HT.sIx_none]
  rw [List.take_of_length_le (by rw [List.length_drop]; omega)]
  by_cases h : k ≤ xs.length
  · rw [Nat.min_eq_left h]
  · rw [Nat.min_eq_right (by omega), List.drop_of_length_le (Nat.le_refl _), List.drop_of_length_le (by omega)]
theorem rngV_ints (n : Nat) : rngV 0 n = (Mk.ofN n).map V.int := by
  unfold rngV Mk.ofN
  rw [List.map_map]
  refine List.map_congr_left fun k _ => ?_
  show V.int (0 + (k : Int)) = V.int (k : Int)
  rw [Int.zero_add]
theorem seq_ofN {H1 : Hp} (n : Nat) : (Itr 0 n).Seq H1 ((Mk.ofN n).map V.int) := by
  rw [← rngV_ints]; exact seq_range
def pI (f : Int → Bool) : V → Bool
  | .int i => f i
  | _ => false
theorem filter_pI (f : Int → Bool) (xs : List Int) : (xs.map V.int).filter (pI f) = (xs.filter f).map V.int := by
  rw [List.filter_map]; rfl
theorem mem_ints {x : V} {xs : List Int} (h : x ∈ xs.map V.int) : ∃ i, x = .int i ∧ i ∈ xs := by
  obtain ⟨i, hi, rfl⟩ := List.mem_map.mp h
  exact ⟨i, rfl, hi⟩
theorem small_line {n : Nat} (h : n ≤ 100000) : n < sizeLine := Nat.lt_of_le_of_lt h (by decide)
section
variable {X : Cx} {K : PySem.W.Frag}
theorem op_eqK (hK : X.K = K) (hu : X.A.units < cLine) : OpR X (compareOp .Eq) (rEqX K) := hK ▸ op_eqX hu
theorem op_neK (hK : X.K = K) (hu : X.A.units < cLine) : OpR X (compareOp .NotEq) (rNeX K) := hK ▸ op_neX hu
theorem ix_K (hK : X.K = K) : IxR X (rIxX K) := hK ▸ ix_X
theorem call_lenK (hK : X.K = K) : CallR X (.builtin "len") (rLenX K) := hK ▸ call_lenX
theorem call_allK (hK : X.K = K) (hc : X.calm = true) : CallR X (.builtin "all") (rAll K) := hK ▸ call_allB hc
theorem call_listK (hK : X.K = K) (hc : X.calm = true) : CallR X (.type "list") (rListX K) := hK ▸ call_listX hc
theorem pi_zipK {elts : List Expr} {k : Nat} {tpos : Pos} {a b : Expr} {ta : TA} {p pos : Pos} (hK : X.K = K) (hg : Gl X "zip") (hm : X.mg "zip" = none) (ha : PA X [a, b] ta) (hs : starEach [a, b] X.env = [(false, eval a X.env), (false, eval b X.env)] := by rfl)
    (hs2 : starEach [b] X.env = [(false, eval b X.env)] := by rfl) : PI X (.Tuple elts k tpos) (.Call (.Name "zip" p) [a, b] [] pos) (iZip K ta) := hK ▸ pi_zip hg hm ha hs hs2
theorem pg_tupK {es : List Expr} {k : Nat} {t : TGs} {n : Nat} {pos : Pos} (hK : X.K = K) (hc : X.calm = true) (h : PGs X es t)
    (hn : (assignEach es X.env).length = n := by rfl) (hst : (assignEach es X.env).findIdx? (·.1) = none := by rfl) : PG X (.Tuple es k pos) (gTup K n t) := hK ▸ pg_tup hc h hn hst
theorem pe_bmK {o e : Expr} {es : List Expr} {to : TE} {t : TA} {name : Str} {apos cpos : Pos} {T id : String} {r : V → List V → Hp → VK → Prop} (hK : X.K = K) (pa : PlainAttrs T) (slot : Slot T name id) (hty : typeOf (.builtin id) = pure (.type "method_descriptor"))
    (hm : MtR X id r) (ho : PE X o to) (ha : PA X (e :: es) t)
    (hbase : attributeBase o name X.env (eval o X.env) = eval o X.env := by rfl)
    (hfew : ((backTo cpos (starEach (e :: es) X.env)).all (fun x => !x.1) && (backToKw cpos (keywordEach [] X.env)).all (fun x => x.1.isSome)
      && decide ((e :: es).length + ([] : List Keyword).length + (if ([] : List Keyword).isEmpty then 0 else 1) < 30)) = true := by rfl)
    (hline : (apos.endLine == cpos.line) = true := by rfl) (hs : starEach (e :: es) X.env = (false, eval e X.env) :: starEach es X.env := by rfl) (hplain : (backTo cpos (starEach es X.env)).any (·.1) = false := by rfl) :
    PE X (.Call (.Attribute o name apos) (e :: es) [] cpos) (tBM K T r to t) := hK ▸ pe_bm pa slot hty hm ho ha hbase hfew hline hs hplain
end
end L2

namespace L2
open PySem PySem.Spec PyProof.Rows
def noStar : Expr → Bool
  | .Starred _ _ => false
  | _ => true
def noStars (es : List Expr) : Bool := es.all noStar
theorem starEach_cons {e : Expr} {es : List Expr} {env : Env} (h : noStar e = true) : starEach (e :: es) env = (false, eval e env) :: starEach es env := by
  cases e <;> first
    | rfl
    | cases h
theorem noStars_tail {e : Expr} {es : List Expr} (h : noStars (e :: es) = true) : noStar e = true ∧ noStars es = true := by
  unfold noStars at h ⊢
  rw [List.all_cons, Bool.and_eq_true] at h
  exact h
theorem backTo_any {pos : Pos} {env : Env} : ∀ {es : List Expr}, noStars es = true → (backTo pos (starEach es env)).any (·.1) = false
  | [], _ => rfl
  | e :: es, h => by
    obtain ⟨h1, h2⟩ := noStars_tail h
    rw [starEach_cons h1]
    show (false || (backTo pos (starEach es env)).any (·.1)) = false
    rw [backTo_any h2]; rfl
theorem backTo_all {pos : Pos} {env : Env} : ∀ {es : List Expr}, noStars es = true → (backTo pos (starEach es env)).all (fun x => !x.1) = true
  | [], _ => rfl
  | e :: es, h => by
    obtain ⟨h1, h2⟩ := noStars_tail h
    rw [starEach_cons h1]
    show (true && (backTo pos (starEach es env)).all (fun x => !x.1)) = true
    rw [backTo_all h2]; rfl
section
variable {X : Cx} {K : PySem.W.Frag}
theorem pvL (i : Nat) {x : Str} {pos : Pos} (hN : X.N[i]? = some x := by kernel_rfl) (hv : X.env.scope.names.lookup x = some .local := by kernel_rfl) (hd : (x == ("__debug__" : Str)) = false := by kernel_rfl)
    (hcd : (x == ("__classdict__" : Str)) = false := by kernel_rfl) : PE X (.Name x pos) (tVar i) := pe_var hN (.inl hv) hd hcd
theorem pvC (i : Nat) {x : Str} {pos : Pos} (hN : X.N[i]? = some x := by kernel_rfl) (hv : X.env.scope.names.lookup x = some .cell := by kernel_rfl) (hd : (x == ("__debug__" : Str)) = false := by kernel_rfl)
    (hcd : (x == ("__classdict__" : Str)) = false := by kernel_rfl) : PE X (.Name x pos) (tVar i) := pe_var hN (.inr (.inl hv)) hd hcd
theorem pa_c {e : Expr} {es : List Expr} {te : TE} {t : TA} (ha : PE X e te) (hr : PA X es t) (hs : noStar e = true := by kernel_rfl) : PA X (e :: es) (tCons te t) := pa_cons ha hr (starEach_cons hs)
theorem pe_callG {CX : CXT} {E : St → XK} {k : Nat} {x : Str} {ps : List Str} {sp : Sp} {e : Expr} {es : List Expr} {t : TA} {p pos : Pos} (C : Fnc X.prog X.w X.K X.mg X.base CX k x ps sp) (hx : Passes CX X E) (hr : Room k X.A) (ha : PA X (e :: es) t)
    (hg : X.env.kindOf x = some .globalImplicit := by kernel_rfl) (hd : (x == ("__debug__" : Str)) = false := by kernel_rfl) (hs : noStars (e :: es) = true := by kernel_rfl) : PE X (.Call (.Name x p) (e :: es) [] pos) (tCall sp [] E t) :=
  pe_callF C hx hr hg ha hd (starEach_cons (noStars_tail hs).1) (backTo_any (noStars_tail hs).2)
theorem pe_callBG {x : Str} {p pos : Pos} {e : Expr} {es : List Expr} {t : TA} {id : String} {r : List V → Hp → VK → Prop} (hc : CallR X (.builtin id) r) (hm : X.mg x = none) (hv : bootBuiltins x = some (.builtin id)) (ha : PA X (e :: es) t)
    (hg : X.env.kindOf x = some .globalImplicit := by kernel_rfl) (hn : x ≠ "__name__" := by decide +kernel) (hd : (x == ("__debug__" : Str)) = false := by kernel_rfl) (hs : noStars (e :: es) = true := by kernel_rfl) : PE X (.Call (.Name x p) (e :: es) [] pos) (tCB r t) :=
  pe_callB hc hg hm hv ha hn hd (starEach_cons (noStars_tail hs).1) (backTo_any (noStars_tail hs).2)
theorem pe_callTyG {x : Str} {p pos : Pos} {e : Expr} {es : List Expr} {t : TA} {T : String} {r : List V → Hp → VK → Prop} (hc : CallR X (.type T) r) (hm : X.mg x = none) (hv : bootBuiltins x = some (.type T)) (ha : PA X (e :: es) t)
    (hg : X.env.kindOf x = some .globalImplicit := by kernel_rfl) (hn : x ≠ "__name__" := by decide +kernel) (hd : (x == ("__debug__" : Str)) = false := by kernel_rfl) (hs : noStars (e :: es) = true := by kernel_rfl) : PE X (.Call (.Name x p) (e :: es) [] pos) (tCB r t) :=
  pe_callTy hc hg hm hv ha hn hd (starEach_cons (noStars_tail hs).1) (backTo_any (noStars_tail hs).2)
theorem pe_tyG {x : Str} {T : String} {pos : Pos} (hm : X.mg x = none) (hv : bootBuiltins x = some (.type T)) (hg : X.env.kindOf x = some .globalImplicit := by kernel_rfl) (hn : x ≠ "__name__" := by decide +kernel) (hd : (x == ("__debug__" : Str)) = false := by kernel_rfl) :
    PE X (.Name x pos) (tC (.ty T)) := pe_ty hg hm hv hn hd
theorem ps_setL {i : Nat} {x : Str} {e : Expr} {te : TE} {pos pos' : Pos} (hN : X.N.Nodup) (he : PE X e te) (hi : X.N[i]? = some x := by kernel_rfl) (hx : X.env.scope.names.lookup x = some .local := by kernel_rfl)
    (hs : swapsWith e (some (.Name x pos')) pos.line X.env = pure false := by kernel_rfl) : PS X (.Assign [.Name x pos'] e pos) (tAsg te (gName i)) := ps_set hN hi (.inl hx) he hs (.inr hx)
theorem ps_setC {i : Nat} {x : Str} {e : Expr} {te : TE} {pos pos' : Pos} (hN : X.N.Nodup) (he : PE X e te) (hi : X.N[i]? = some x := by kernel_rfl) (hx : X.env.scope.names.lookup x = some .cell := by kernel_rfl) (hf : X.fn x = true := by kernel_rfl)
    (hs : swapsWith e (some (.Name x pos')) pos.line X.env = pure false := by kernel_rfl) : PS X (.Assign [.Name x pos'] e pos) (tAsg te (gName i)) := ps_set hN hi (.inr hx) he hs (.inl hf)
theorem pg_nameL {i : Nat} {x : Str} {pos : Pos} (hN : X.N.Nodup) (hi : X.N[i]? = some x := by kernel_rfl) (hx : X.env.scope.names.lookup x = some .local := by kernel_rfl) : PG X (.Name x pos) (gName i) := pg_name hN hi (.inl hx) (.inr hx)
theorem pg_nameC {i : Nat} {x : Str} {pos : Pos} (hN : X.N.Nodup) (hi : X.N[i]? = some x := by kernel_rfl) (hx : X.env.scope.names.lookup x = some .cell := by kernel_rfl) (hf : X.fn x = true := by kernel_rfl) : PG X (.Name x pos) (gName i) := pg_name hN hi (.inr hx) (.inl hf)
theorem pi_range1G {tg a : Expr} {ta : TA} {p pos : Pos} (hm : X.mg "range" = none) (ha : PA X [a] ta) (hg : X.env.kindOf "range" = some .globalImplicit := by kernel_rfl) (hs : noStar a = true := by kernel_rfl) : PI X tg (.Call (.Name "range" p) [a] [] pos) (iRng1 ta) :=
  pi_range1 hg hm ha (starEach_cons hs)
theorem pi_range2G {tg a b : Expr} {ta : TA} {p pos : Pos} (hm : X.mg "range" = none) (ha : PA X [a, b] ta) (hg : X.env.kindOf "range" = some .globalImplicit := by kernel_rfl) (hs : noStar a = true := by kernel_rfl) (hs2 : noStar b = true := by kernel_rfl) :
    PI X tg (.Call (.Name "range" p) [a, b] [] pos) (iRng2 ta) := pi_range2 hg hm ha (by rw [starEach_cons hs, starEach_cons hs2]; rfl) (starEach_cons hs2)
theorem pi_zipG {elts : List Expr} {k : Nat} {tpos : Pos} {a b : Expr} {ta : TA} {p pos : Pos} (hK : X.K = K) (hm : X.mg "zip" = none) (ha : PA X [a, b] ta) (hg : X.env.kindOf "zip" = some .globalImplicit := by kernel_rfl) (hs : noStar a = true := by kernel_rfl) (hs2 : noStar b = true := by kernel_rfl) :
    PI X (.Tuple elts k tpos) (.Call (.Name "zip" p) [a, b] [] pos) (iZip K ta) := pi_zipK hK hg hm ha (by rw [starEach_cons hs, starEach_cons hs2]; rfl) (starEach_cons hs2)
theorem pe_bmG {o e : Expr} {es : List Expr} {to : TE} {t : TA} {name : Str} {apos cpos : Pos} {T id : String} {r : V → List V → Hp → VK → Prop} (hK : X.K = K) (pa : PlainAttrs T) (slot : Slot T name id) (hty : typeOf (.builtin id) = pure (.type "method_descriptor"))
    (hm : MtR X id r) (ho : PE X o to) (ha : PA X (e :: es) t)
    (hbase : attributeBase o name X.env (eval o X.env) = eval o X.env := by kernel_rfl) (hs : noStars (e :: es) = true := by kernel_rfl) (hlen : decide ((e :: es).length < 30) = true := by kernel_rfl)
    (hline : (apos.endLine == cpos.line) = true := by kernel_rfl) : PE X (.Call (.Attribute o name apos) (e :: es) [] cpos) (tBM K T r to t) := by
  refine pe_bmK hK pa slot hty hm ho ha hbase ?_ hline (starEach_cons (noStars_tail hs).1) (backTo_any (noStars_tail hs).2)
  rw [backTo_all hs]
  show (true && true && decide ((e :: es).length + 0 + 0 < 30)) = true
  rw [Bool.true_and, Bool.true_and]; exact hlen
end
end L2

namespace L2
open PySem PySem.Spec PyProof.Rows
def tx (l : List Nat) : Str := ⟨l.toArray⟩
theorem tx_cps (l : List Nat) : (tx l).cps.toList = l := by unfold tx; simp
theorem tx_len (l : List Nat) : (tx l).length = l.length := by show l.toArray.size = _; simp
theorem tx_of (x : Str) : tx x.cps.toList = x := by unfold tx; simp
theorem tx_app (a b : List Nat) : tx a ++ tx b = tx (a ++ b) := by
  show Str.mk (a.toArray ++ b.toArray) = Str.mk (a ++ b).toArray
  simp
theorem tx_inj {a b : List Nat} (h : tx a = tx b) : a = b := by have := congrArg (fun x : Str => x.cps.toList) h; simpa [tx] using this
theorem len_cps (x : Str) : x.length = x.cps.toList.length := by show x.cps.size = _; simp
def Itx (z : Str) : It := ⟨fun i _ => i < z.cps.size, fun i H v H' => H' = H ∧ ∃ c, z.cps[i]? = some c ∧ v = .str ⟨#[c]⟩, fun i _ => z.cps.size ≤ i⟩
theorem turn_str {P : Program} {w : World} {K : PySem.W.Frag} {tg : Expr} (n : String) (hn : n = "str_ascii_iterator" ∨ n = "str_iterator") (z : Str) (t : Tok) (it : Addr) : Turn P w K tg (Itx z) [it] it (fun i h => h.IsStrIter it n z t i) where
  mem := by simp
  obj := fun i h st b hb => by
    have e : b = it := by simpa using hb
    subst e
    obtain ⟨o, e, c, d⟩ := st
    exact ⟨o, e, fun v z => by rw [d] at z; cases z⟩
  keep := fun i h h' st k => by
    obtain ⟨o, e, c, d⟩ := st
    exact ⟨o, k it (by simp) o e, c, d⟩
  item := by
    intro X hP hw hK hc i pins s σ H E I hf st hg
    subst hP hw hK
    have hg' : i < z.cps.size := hg
    have hx : z.cps[i]? = some z.cps[i] := Array.getElem?_eq_getElem hg'
    obtain ⟨f0, f1, f2, f3, f4, f5⟩ := hf it (by simp)
    have go : ∀ h', h'.IsStrIter it n z t (i + 1) → Heap.SameBut it s.heap h' → ∃ u, some (Value.str ⟨#[z.cps[i]]⟩ s.toks) = some u ∧
        wpAny (model X.prog X.w) X.A (letOwnedTupleGo tg (.ref it) u) (fun _ s2 => ∃ x H', Inv X pins σ H' s2 ∧ RelV x u ∧ (Itx z).yld i H x H' ∧ s2.heap.IsStrIter it n z t (i + 1) ∧ ∀ b ∈ [it], H' b = none) E { s with heap := h', toks := s.toks + 1 } := fun h' st' sb => by
      have I1 : Inv X pins σ H { s with heap := h', toks := s.toks + 1 } := I.turned (t' := s.toks + 1) (fun b o hb e => (sb.2 b hb).trans e) f0 f1 f3 f4 f5
      obtain ⟨o, e, c, d⟩ := id st'
      exact ⟨_, rfl, go_of (s := { s with heap := h', toks := s.toks + 1 }) e c d (by rcases hn with rfl | rfl <;> decide) ⟨.str ⟨#[z.cps[i]]⟩, H, I1, ⟨_, rfl⟩, ⟨rfl, _, hx, rfl⟩, st', fun b hb => (hf b hb).1⟩⟩
    rcases hn with rfl | rfl
    · exact wpAny_pyNext_ascii_item st hx go
    · exact wpAny_pyNext_wide_item st hx go
  done := by
    intro X hP hw hK hc i pins s σ H E I hf st hg
    subst hP hw hK
    have hx : z.cps[i]? = none := Array.getElem?_eq_none hg
    obtain ⟨f0, f1, f2, f3, f4, f5⟩ := hf it (by simp)
    have go : ∀ h', Heap.ExtBut it s.heap h' → (none : Option Value) = none ∧ Inv X pins σ H { s with heap := h' } := fun h' eb =>
      ⟨rfl, I.turned (t' := s.toks) (fun b o hb e => eb b o hb e) f0 f1 f3 f4 f5⟩
    rcases hn with rfl | rfl
    · exact wpAny_pyNext_ascii_end (I.ok.hd hc) st hx go
    · exact wpAny_pyNext_wide_end (I.ok.hd hc) st hx go
  self := fun _ _ _ _ _ st h => by
    rcases hn with rfl | rfl
    · exact wpAny_pyIter_striter_ascii st h
    · exact wpAny_pyIter_striter_wide st h
def iSeqV (K : PySem.W.Frag) (x : V) (H : Hp) (R : It → Hp → Prop) : Prop := match x with
  | .ref a => ((∃ xs, SqL K H a xs) ∧ R (Itl K a) H) ∨ ((∃ xs, SqT K H a xs) ∧ R (Itt K a) H)
  | .str z => R (Itx z) H
  | _ => False
def iSeqX (K : PySem.W.Frag) (te : TE) : TI := fun σ H R => te σ H fun x H1 => iSeqV K x H1 R
theorem pi_seq {X : Cx} {tg l : Expr} {tl : TE} (hl : PE X l tl) : PI X tg l (iSeqX X.K tl) := by
  intro pins s σ H R I h
  refine thn (hl pins s σ H _ I h) fun v s1 ⟨x, H1, I1, r1, q1⟩ => ?_
  cases x with
  | ref a =>
    cases r1
    rcases q1 with ⟨⟨xs, hq⟩, q⟩ | ⟨⟨xs, hq⟩, q⟩
    · obtain ⟨its, rv, p, hz⟩ := I1.list hq
      refine wpAny_pyIter_list p.isList ?_
      refine ⟨s1.heap.objs.size, [s1.heap.objs.size], _, _, H1, rfl, I1.kept (t' := s1.toks) fun b o e => Heap.get?_push_of_some _ e, turn_list a _, ⟨_, Heap.get?_push_size _ rfl, rfl, rfl⟩, fun b hb => ?_, q⟩
      have e : b = s1.heap.objs.size := by simpa using hb
      subst e
      exact I1.fpOk (Nat.le_refl _) (I1.hok.fresh (Nat.le_refl _))
    · obtain ⟨its, rv, p, hz⟩ := I1.tuple hq
      refine wpAny_pyIter_tuple (show s1.heap.IsTuple a its.toArray from p) ?_
      refine ⟨s1.heap.objs.size, [s1.heap.objs.size], _, _, H1, rfl, I1.kept (t' := s1.toks) fun b o e => Heap.get?_push_of_some _ e, turn_tuple a _, ⟨_, Heap.get?_push_size _ rfl, rfl, rfl⟩, fun b hb => ?_, q⟩
      have e : b = s1.heap.objs.size := by simpa using hb
      subst e
      exact I1.fpOk (Nat.le_refl _) (I1.hok.fresh (Nat.le_refl _))
  | str z =>
    obtain ⟨t, rfl⟩ := r1
    cases ha : z.cps.all (· < 128) with
    | true =>
      refine wpAny_pyIter_ascii ha ?_
      refine ⟨s1.heap.objs.size, [s1.heap.objs.size], _, _, H1, rfl, I1.kept (t' := s1.toks) fun b o e => Heap.get?_push_of_some _ e, turn_str "str_ascii_iterator" (.inl rfl) z t _, ⟨_, Heap.get?_push_size _ rfl, rfl, rfl⟩, fun b hb => ?_, q1⟩
      have e : b = s1.heap.objs.size := by simpa using hb
      subst e
      exact I1.fpOk (Nat.le_refl _) (I1.hok.fresh (Nat.le_refl _))
    | false =>
      refine wpAny_pyIter_wide ha ?_
      refine ⟨s1.heap.objs.size, [s1.heap.objs.size], _, _, H1, rfl, I1.kept (t' := s1.toks) fun b o e => Heap.get?_push_of_some _ e, turn_str "str_iterator" (.inr rfl) z t _, ⟨_, Heap.get?_push_size _ rfl, rfl, rfl⟩, fun b hb => ?_, q1⟩
      have e : b = s1.heap.objs.size := by simpa using hb
      subst e
      exact I1.fpOk (Nat.le_refl _) (I1.hok.fresh (Nat.le_refl _))
  | _ => exact False.elim q1
theorem pi_seqK {X : Cx} {K : PySem.W.Frag} {tg l : Expr} {tl : TE} (hK : X.K = K) (hl : PE X l tl) : PI X tg l (iSeqX K tl) := hK ▸ pi_seq hl
theorem ap_iSeq {σ : St} {H : Hp} {K : PySem.W.Frag} {tl : TE} {R : It → Hp → Prop} : iSeqX K tl σ H R = tl σ H fun x H1 => iSeqV K x H1 R := propext Iff.rfl
def sgs (z : Str) : List V := z.cps.toList.map fun c => V.str ⟨#[c]⟩
theorem seq_str {H1 : Hp} (z : Str) : (Itx z).Seq H1 (sgs z) := fun H s => by
  refine ⟨fun i x e => ?_, fun i hi => ?_⟩
  · unfold sgs at e
    rw [List.getElem?_map, Array.getElem?_toList] at e
    cases hc : z.cps[i]? with
    | none => rw [hc] at e; cases e
    | some c =>
      rw [hc] at e
      have e' : V.str ⟨#[c]⟩ = x := Option.some.inj e
      have hi : i < z.cps.size := by
        rcases Nat.lt_or_ge i z.cps.size with h | h
        · exact h
        · rw [Array.getElem?_eq_none h] at hc; cases hc
      exact ⟨hi, fun y H' ⟨e1, d, e2, e3⟩ => ⟨e1, by rw [hc] at e2; cases e2; rw [e3, e']⟩⟩
  · show z.cps.size ≤ i
    unfold sgs at hi
    simpa using hi
def rInX (K : PySem.W.Frag) (neg : Bool) : R2 := fun x y H Q => match y with
  | .str j => match x with
    | .str i => Q (.bl (neg != !(Builtin.Str.occurrences j i 0 j.length 1).isEmpty)) H
    | _ => False
  | .ref p => (∃ xs, Sq K H p xs ∧ flatV x = true ∧ xs.all flatV = true ∧ Q (.bl (neg != inV x xs)) H) ∨ ∃ o : Option V, DGet H p x o ∧ Q (.bl (neg != o.isSome)) H
  | _ => False
theorem op_inX {X : Cx} (hu : X.A.units + 1 < cLine) : OpR X (compareOp .In) (rInX X.K false) := by
  intro pins s σ H x y v u Q I rx ry h
  cases y with
  | str j => cases x with
    | str i =>
      refine op_in_str pins s σ H _ _ v u Q I rx ry ⟨i, j, rfl, rfl, ?_⟩
      have h' : Q (.bl (false != !(Builtin.Str.occurrences j i 0 j.length 1).isEmpty)) H := h
      rwa [Bool.false_bne] at h'
    | _ => exact False.elim h
  | ref p =>
    rcases h with ⟨xs, hs, fx, fxs, q⟩ | ⟨o, hg, q⟩
    · rw [Bool.false_bne] at q
      exact op_in_seq pins s σ H _ _ v u Q I rx ry ⟨p, xs, rfl, hs, fx, fxs, q⟩
    · rw [Bool.false_bne] at q
      cases ry
      exact d_in hu I hg rx fun s' I' => ⟨.bl _, H, I', rfl, q⟩
  | _ => exact False.elim h
theorem op_inK {X : Cx} {K : PySem.W.Frag} (hK : X.K = K) (hu : X.A.units + 1 < cLine) : OpR X (compareOp .In) (rInX K false) := hK ▸ op_inX hu
theorem in_one (x : Str) (c : Nat) : (!(Builtin.Str.occurrences x ⟨#[c]⟩ 0 x.length 1).isEmpty) = decide (c ∈ x.cps.toList) := StrLaws.found_one x c
theorem strs_of {ys : List Str} : ∀ {us : List Value}, Vals (ys.map V.str) us → StrsAre us ys := by
  induction ys with
  | nil => intro us r; cases r; exact .nil
  | cons y r ih =>
    intro us h
    cases h with
    | cons h1 h2 =>
      obtain ⟨t, rfl⟩ := h1
      exact .cons _ _ (ih h2)
def rJoinS (K : PySem.W.Frag) : V → List V → Hp → VK → Prop := fun x vs H Q => match x, vs with
  | .str z, [.ref p] => ∃ ys : List Str, SqL K H p (ys.map V.str) ∧ (ys.map (·.length)).sum + ys.length * z.length ≤ 16777216 ∧ Q (.str (Txt.join z ys)) H
  | _, _ => False
theorem mt_joinS {X : Cx} : MtM X "str.join" (rJoinS X.K) := by
  intro pins s σ H x vs v us Q I rx rv h
  match x, vs, h with
  | .str z, [.ref p], h =>
    obtain ⟨ys, hs, hl, q⟩ := h
    obtain ⟨t, rfl⟩ := rx
    obtain ⟨u, rfl, ru⟩ := rv.one
    cases ru
    obtain ⟨its, rv2, pl, hz⟩ := I.list hs
    exact join_list pl.isList (by simpa using strs_of rv2) hl fun t' k => ⟨.str _, H, I.tok _, ⟨_, rfl⟩, q⟩
theorem mt_joinK {X : Cx} {K : PySem.W.Frag} (hK : X.K = K) : MtM X "str.join" (rJoinS K) := hK ▸ mt_joinS
theorem join_empty (ls : List (List Nat)) : Txt.join (tx []) (ls.map tx) = tx ls.flatten := by
  have go : ∀ (r : List (List Nat)) (acc : List Nat), (r.map tx).foldl (fun acc p => acc ++ (tx []).cps ++ p.cps) acc.toArray = (acc ++ r.flatten).toArray := by
    intro r
    induction r with
    | nil => intro acc; simp
    | cons a r ih =>
      intro acc
      rw [List.map_cons, List.foldl_cons]
      have e : acc.toArray ++ (tx []).cps ++ (tx a).cps = (acc ++ a).toArray := by simp [tx]
      rw [e, ih]
      simp
  unfold Txt.join Builtin.Str.glued
  cases ls with
  | nil => rfl
  | cons a r =>
    have := go r a
    show Str.mk ((r.map tx).foldl (fun acc p => acc ++ (tx []).cps ++ p.cps) a.toArray) = tx (a :: r).flatten
    rw [this]
    rfl
theorem join_signs (l : List Nat) : Txt.join (tx []) (l.map fun c => tx [c]) = tx l := by
  have := join_empty (l.map fun c => [c])
  rw [List.map_map] at this
  rw [show (l.map fun c => tx [c]) = l.map (tx ∘ fun c => [c]) from rfl, this]
  congr 1
  induction l with
  | nil => rfl
  | cons a r ih => rw [List.map_cons, List.flatten_cons, ih (by
      have := join_empty (r.map fun c => [c])
      rw [List.map_map] at this; exact this)]; rfl
section
variable {α β : Type}
noncomputable def pull {γ : Type} (e : α → V) (f : α → γ) (d : γ) (v : V) : γ := open Classical in if h : ∃ a, e a = v then f (Classical.choose h) else d
theorem pull_at {γ : Type} {e : α → V} (inj : ∀ a b, e a = e b → a = b) (f : α → γ) (d : γ) (a : α) : pull e f d (e a) = f a := by
  unfold pull
  have h : ∃ b, e b = e a := ⟨a, rfl⟩
  rw [dif_pos h, inj _ _ (Classical.choose_spec h)]
theorem inj_int : ∀ a b : Int, V.int a = V.int b → a = b := fun _ _ h => by cases h; rfl
theorem inj_sg : ∀ a b : Nat, V.str ⟨#[a]⟩ = V.str ⟨#[b]⟩ → a = b := fun _ _ h => by cases h; rfl
theorem lc_A {J : It} {H1 : Hp} {xs : List α} {js : List Nat} {σ : St} {tc : TT} {te : TE} {Q : VK} (e : α → V) (inj : ∀ a b, e a = e b → a = b) (hJ : J.Seq H1 (xs.map e)) (hl : xs.length < sizeLine) (p : α → Bool) (f : α → V)
    (hc : ∀ x ∈ xs, ∀ H, Same H1 H → ∀ R : Bool → Hp → Prop, (∀ H', Same H H' → R (p x) H') → tc (some (e x) :: js.map fun j => (σ[j]?).join) H R)
    (he : ∀ x ∈ xs, p x = true → ∀ H, Same H1 H → ∀ R : VK, (∀ H', Same H H' → R (f x) H') → te (some (e x) :: js.map fun j => (σ[j]?).join) H R)
    (q : ∀ D H, H1 D = none → Same H1 H → H D = some (.lst ((xs.filter p).map f)) → Q (.ref D) H) : LcTurns (gName 0) tc te (blkSt 1 js σ) J H1 Q := by
  refine lc_one hJ (by rw [List.length_map]; exact hl) (pull e p false) (pull e f .non) ?_ ?_ ?_
  · intro v hv H s R hR
    obtain ⟨x, hx, rfl⟩ := List.mem_map.mp hv
    rw [pull_at inj] at hR
    exact hc x hx H s R hR
  · intro v hv hp H s R hR
    obtain ⟨x, hx, rfl⟩ := List.mem_map.mp hv
    rw [pull_at inj] at hR hp
    exact he x hx hp H s R hR
  · intro D H h1 h2 h3
    refine q D H h1 h2 ?_
    rw [h3, List.filter_map, List.map_map]
    congr 2
    have e1 : pull e f .non ∘ e = f := funext fun a => pull_at inj f .non a
    have e2 : pull e p false ∘ e = p := funext fun a => pull_at inj p false a
    rw [e1, e2]
theorem lc_M {J : It} {H1 : Hp} {xs : List α} {js : List Nat} {σ : St} {te : TE} {Q : VK} (e : α → V) (inj : ∀ a b, e a = e b → a = b) (hJ : J.Seq H1 (xs.map e)) (hl : xs.length < sizeLine) (f : α → V)
    (he : ∀ x ∈ xs, ∀ H, Same H1 H → ∀ R : VK, (∀ H', Same H H' → R (f x) H') → te (some (e x) :: js.map fun j => (σ[j]?).join) H R)
    (q : ∀ D H, H1 D = none → Same H1 H → H D = some (.lst (xs.map f)) → Q (.ref D) H) : LcTurns (gName 0) tYes te (blkSt 1 js σ) J H1 Q :=
  lc_A e inj hJ hl (fun _ => true) f (fun x _ H _ R hR => hR H (Same.refl H)) (fun x hx _ H s R hR => he x hx H s R hR) fun D H h1 h2 h3 => q D H h1 h2 (by rw [List.filter_eq_self.mpr (fun _ _ => rfl)] at h3; exact h3)
theorem lc_Z {K : PySem.W.Frag} {a b : Addr} {H1 : Hp} {xs : List α} {ys : List β} {js : List Nat} {σ : St} {te : TE} {Q : VK} (e : α → V) (e' : β → V) (inj : ∀ a b, e a = e b → a = b) (inj' : ∀ a b, e' a = e' b → a = b)
    (hx : SqL K H1 a (xs.map e)) (hy : SqL K H1 b (ys.map e')) (hl : xs.length < sizeLine) (f : α → β → V)
    (he : ∀ x y, (x, y) ∈ xs.zip ys → ∀ H, Same H1 H → ∀ R : VK, (∀ H', Same H H' → R (f x y) H') → te (some (e x) :: some (e' y) :: js.map fun j => (σ[j]?).join) H R)
    (q : ∀ D H, H1 D = none → Same H1 H → H D = some (.lst ((xs.zip ys).map fun p => f p.1 p.2)) → Q (.ref D) H) : LcTurns (gTup K 2 (gCons (gName 0) (gCons (gName 1) gNil))) tYes te (blkSt 2 js σ) (Itz K a b) H1 Q := by
  refine lc_zip hx hy (by rw [List.length_map]; exact hl) (fun v u => pull e (fun x => pull e' (f x) .non u) .non v) ?_ ?_
  · intro v u hvu H s R hR
    rw [List.zip_map, List.mem_map] at hvu
    obtain ⟨⟨x, y⟩, hxy, e2⟩ := hvu
    cases e2
    have e3 : pull e (fun x => pull e' (f x) .non (e' y)) .non (e x) = f x y := by rw [pull_at inj, pull_at inj']
    exact he x y hxy H s R (fun H' s' => by have := hR H' s'; rwa [e3] at this)
  · intro D H h1 h2 h3
    refine q D H h1 h2 ?_
    rw [h3, List.zip_map, List.map_map]
    congr 2
    refine List.map_congr_left fun ⟨x, y⟩ _ => ?_
    show pull e (fun x => pull e' (f x) .non (e' y)) .non (e x) = f x y
    rw [pull_at inj, pull_at inj']
end
theorem seq_sg {H1 : Hp} (z : Str) : (Itx z).Seq H1 (z.cps.toList.map fun c => V.str ⟨#[c]⟩) := seq_str z
theorem sub_str {H : Hp} {x : V} {t : Tg} (ht : tagV H x = some t) (hs : ∀ z, x ≠ .str z) : t ≠ .str := fun e => by
  subst e
  cases x with
  | str z => exact hs z rfl
  | ref a =>
    have h' : tagO (H a) = some .str := ht
    cases e : H a with
    | none => rw [e] at h'; cases h'
    | some o => rw [e] at h'; cases o with
      | frz ob u => cases u <;> cases h'
      | _ => cases h'
  | _ => cases ht
theorem cut_seq {t u : TS} {D : Ends} {σ : St} {H : Hp} (R : St → Hp → Prop) (h2 : ∀ σ' H', R σ' H' → u D σ' H') (h1 : ∀ U : St → Hp → Prop, (∀ σ' H', R σ' H' → U σ' H') → t { D with nx := U } σ H) : tSeq t u D σ H := h1 _ h2
theorem atI_of {α : Type} {l : List α} {i : Int} {v : α} (h0 : 0 ≤ i) (h1 : l[i.toNat]? = some v) : atI l i = some v := by
  have := atI_nat h1
  rwa [Int.toNat_of_nonneg h0] at this
theorem abc_codes : (Str.ofString "abcdefghijklmnopqrstuvwxyz").cps.toList = List.range' 97 26 := by decide +kernel
theorem empty_tx : Str.ofString "" = tx [] := by decide +kernel
theorem js_seq {K : PySem.W.Frag} {H : Hp} {D : Addr} {l : List Nat} (h : H D = some (.lst (l.map fun c => V.str (tx [c])))) : SqL K H D ((l.map fun c => tx [c]).map V.str) := .of (by rw [h, List.map_map]; rfl)
theorem js_len {l : List Nat} (hl : l.length ≤ 100000) : ((l.map fun c => tx [c]).map (·.length)).sum + (l.map fun c => tx [c]).length * (Str.ofString "").length ≤ 16777216 := by
  have e2 : (Str.ofString "").length = 0 := by decide +kernel
  rw [e2, Nat.mul_zero, Nat.add_zero, List.map_map]
  have e : ∀ l : List Nat, (l.map ((fun x : Str => x.length) ∘ fun x => tx [x])).sum = l.length := by
    intro l
    induction l with
    | nil => rfl
    | cons a r ih => rw [List.map_cons, List.sum_cons, ih, List.length_cons]; show (tx [a]).length + _ = _; rw [tx_len]; simp; omega
  rw [e]
  omega
theorem js_join (l : List Nat) : Txt.join (Str.ofString "") (l.map fun c => tx [c]) = tx l := by rw [empty_tx, join_signs]
end L2

namespace L2
open PySem PySem.Spec PyProof.Rows
def DK (h h' : Heap) : Prop := ∀ b o, h.get? b = some o → ∃ o', h'.get? b = some o' ∧ o'.cls = o.cls ∧ o'.dict = o.dict ∧ (∀ vs, o.data = .fields vs → ∃ vs', o'.data = .fields vs' ∧ vs'[2]? = vs[2]?)
theorem DK.refl (h : Heap) : DK h h := fun b o e => ⟨o, e, rfl, rfl, fun vs q => ⟨vs, q, rfl⟩⟩
theorem DK.trans {h1 h2 h3 : Heap} (x : DK h1 h2) (y : DK h2 h3) : DK h1 h3 := fun b o e => by
  obtain ⟨o1, e1, c1, d1, f1⟩ := x b o e
  obtain ⟨o2, e2, c2, d2, f2⟩ := y b o1 e1
  exact ⟨o2, e2, c2.trans c1, d2.trans d1, fun vs q => by obtain ⟨v1, q1, g1⟩ := f1 vs q; obtain ⟨v2, q2, g2⟩ := f2 v1 q1; exact ⟨v2, q2, g2.trans g1⟩⟩
theorem DK.push (h : Heap) (o : Obj) : DK h (h.push o) := fun b u e => ⟨u, Heap.get?_push_of_some _ e, rfl, rfl, fun vs q => ⟨vs, q, rfl⟩⟩
structure KD {α : Type} (m : Sem α) : Prop where
  out : ∀ (M : Model) (Γ : PySem.Ctx) (P : α → Pos → Shared → Prop) (Ee : Value → Pos → Shared → Prop) (p : Pos) (s : Shared), Sem.wp M Γ m P Ee p s →
    Sem.wp M Γ m (fun a p' s' => P a p' s' ∧ DK s.heap s'.heap) (fun e p' s' => Ee e p' s' ∧ DK s.heap s'.heap) p s
namespace KD
variable {α β : Type}
theorem pure (a : α) : KD (Pure.pure a : Sem α) := ⟨fun _ _ _ _ _ s h => ⟨h, DK.refl _⟩⟩
theorem unsupported (w : String) : KD (PySem.unsupported w : Sem α) := ⟨fun _ _ _ _ _ _ h => h⟩
theorem bind {m : Sem α} {f : α → Sem β} (hm : KD m) (hf : ∀ a, KD (f a)) : KD (m >>= f) := ⟨fun M Γ P Ee p s h => by
  rw [Sem.wp_bind'] at h ⊢
  refine Sem.wp_mono M Γ m (fun a p' s' h' => ?_) (fun _ _ _ x => x) p s (hm.out M Γ _ _ p s h)
  refine Sem.wp_mono M Γ (f a) (fun b p2 s2 h2 => ⟨h2.1, h'.2.trans h2.2⟩) (fun e p2 s2 h2 => ⟨h2.1, h'.2.trans h2.2⟩) p' s' ((hf a).out M Γ P Ee p' s' h'.1)⟩
theorem ite {c : Prop} [Decidable c] {t u : Sem α} (ht : KD t) (hu : KD u) : KD (if c then t else u) := by split <;> assumption
theorem load (a : Addr) : KD (PySem.load a) := ⟨fun _ _ _ _ _ s h => by obtain ⟨o, e, q⟩ := h; exact ⟨o, e, q, DK.refl _⟩⟩
theorem stack : KD PySem.stack := ⟨fun M Γ P Ee p s h => by
  unfold PySem.stack at h ⊢
  rw [Sem.wp_stack] at h ⊢
  exact ⟨h, DK.refl _⟩⟩
theorem alloc (o : Obj) : KD (PySem.alloc o) := ⟨fun _ _ _ _ _ s h => ⟨h, DK.push _ _⟩⟩
theorem field (v : Value) (i : Nat) : KD (PySem.field v i) := ⟨fun _ Γ P Ee p s h => by
  rw [wp_field_iff] at h ⊢
  obtain ⟨a, o, vs, x, e1, e2, e3, e4, q⟩ := h
  exact ⟨a, o, vs, x, e1, e2, e3, e4, q, DK.refl _⟩⟩
theorem update {a : Addr} {f : Obj → Obj} (hf : ∀ o, (f o).cls = o.cls ∧ (f o).dict = o.dict ∧ (f o).isFreed = o.isFreed ∧ ∀ vs, o.data = .fields vs → ∃ vs', (f o).data = .fields vs' ∧ vs'[2]? = vs[2]?) : KD (PySem.update a f) := ⟨fun _ _ _ _ _ s h => by
  refine ⟨h.1, h.2, fun b o e => ?_⟩
  by_cases hb : b = a
  · subst hb
    obtain ⟨h1, h2, h3, h4⟩ := hf o
    have hfr : o.isFreed = false := (Heap.get?_some_iff.mp e).2
    exact ⟨f o, Heap.get?_update_self _ e (by rw [h3]; exact hfr), h1, h2, h4⟩
  · exact ⟨o, (Heap.get?_update_other _ _ (Ne.symm hb)).trans e, rfl, rfl, fun vs q => ⟨vs, q, rfl⟩⟩⟩
theorem setField (v : Value) (i : Nat) (x : Value) (hi : i ≠ 2) : KD (PySem.setField v i x) := ⟨fun _ Γ P Ee p s h => by
  rw [wp_setField_iff] at h ⊢
  obtain ⟨a, o, vs, e1, e2, e3, e4, q⟩ := h
  refine ⟨a, o, vs, e1, e2, e3, e4, q, fun b u e => ?_⟩
  by_cases hb : b = a
  · subst hb
    rw [e2] at e
    cases e
    have hd := Obj.data_mapFields e3 (·.setIfInBounds i x)
    exact ⟨_, Heap.get?_update_self _ e2 (Obj.isFreed_of_fields hd), Obj.cls_mapFields .., by cases o with | mk c d dt sl => cases dt <;> first | rfl, fun vs' q => ⟨_, hd, by rw [e3] at q; cases q; exact Array.getElem?_setIfInBounds_ne hi⟩⟩
  · exact ⟨u, (Heap.get?_update_other _ _ (Ne.symm hb)).trans e, rfl, rfl, fun vs q => ⟨vs, q, rfl⟩⟩⟩
theorem slots {a : Addr} {g : Obj → Array (Option Value)} : KD (PySem.update a fun o => { o with slots := g o }) := update fun o => ⟨rfl, rfl, by cases o with | mk c d dt sl => cases dt <;> rfl, fun vs q => ⟨vs, q, rfl⟩⟩
end KD
theorem kd_behind (env : Env) (outer : List Env) : KD (behindIsImport env outer) := by
  unfold behindIsImport
  repeat' with_reducible first | exact KD.pure _ | exact KD.field _ _ | apply KD.ite | apply KD.bind | intro _
theorem kd_caller : KD underTheClaimsCaller := by
  unfold underTheClaimsCaller
  repeat' with_reducible first | exact KD.pure _ | exact KD.stack | exact KD.unsupported _ | exact KD.field _ _ | apply KD.ite | apply KD.bind | intro _ | split
theorem kd_kept (env : Env) (i : Bool) (l : List Env) : KD (keptBack env i l) := by
  have := kd_caller
  cases l <;> unfold keptBack <;> repeat' with_reducible first | assumption | exact KD.pure _ | apply KD.ite | apply KD.bind | intro _
theorem kd_ready : ∀ l : List Env, KD (readyFrames l)
  | [] => KD.pure _
  | env :: outer => by
    have ih := kd_ready outer
    have h1 := kd_behind env outer
    have h2 := fun i => kd_kept env i outer
    unfold readyFrames
    split
    · refine KD.bind (KD.load _) fun o => KD.ite (KD.pure _) (KD.bind h1 fun b => KD.bind (h2 b) fun v => KD.bind KD.slots fun _ => ih)
    · exact KD.unsupported _
theorem kd_frameObject (l : List Env) : KD (frameObject l) := by
  cases l with
  | nil => exact KD.pure _
  | cons a r => unfold frameObject; exact KD.bind (kd_ready _) fun _ => KD.pure _
theorem kd_frameOf (env : Env) : KD (PySem.frameOf env) := by
  unfold PySem.frameOf frameEnvs
  refine KD.bind (KD.bind KD.stack fun _ => KD.pure _) fun l => KD.bind (kd_frameObject _) fun o => ?_
  cases o with
  | none => exact KD.unsupported _
  | some v => exact KD.pure _
theorem kd_place (f : Addr) (b : Bool) : KD (entryPlaceOf f b) := by
  unfold entryPlaceOf
  repeat' with_reducible first | exact KD.pure _ | exact KD.stack | exact KD.unsupported _ | apply KD.ite | apply KD.bind | intro _ | split
theorem kd_entry (a b c d e : Value) (l : List Value) : KD (EntryCells.newEntry a b c d e l) := by
  unfold EntryCells.newEntry newFields newObj newObjAsIs
  repeat' first | exact KD.pure _ | exact KD.alloc _ | exact KD.unsupported _ | apply KD.ite | apply KD.bind | intro _ | split
theorem kd_note (e : Value) (env : Env) : KD (noteFrame e env) := by
  unfold noteFrame
  have h1 := kd_frameOf env
  have h2 := kd_place
  have h3 := kd_entry
  split
  · repeat' with_reducible first | exact KD.pure _ | exact KD.field _ _ | exact KD.setField _ _ _ (by decide) | exact h1 | exact h2 _ _ | exact h3 _ _ _ _ _ _ | apply KD.ite | apply KD.bind | intro _
  · exact KD.unsupported _
theorem kd_flight (e : Value) (o : Option Addr) : KD (setFlight e o) := by
  unfold setFlight
  repeat' with_reducible first | exact KD.pure _ | exact KD.field _ _ | exact KD.setField _ _ _ (by decide) | apply KD.ite | apply KD.bind | intro _
theorem kd_leaving (env : Env) (e : Value) : KD (leaving env e) := by
  unfold leaving
  exact KD.bind (kd_note _ _) fun _ => kd_flight _ _
theorem KD.any {α : Type} {M : Model} {A : Around} {t : Sem α} {Q : α → Shared → Prop} {E : Value → Shared → Prop} {s : Shared} (k : KD t) (h : wpAny M A t Q E s) :
    wpAny M A t (fun a s' => Q a s' ∧ DK s.heap s'.heap) (fun e s' => E e s' ∧ DK s.heap s'.heap) s := fun Γ p hΓ => k.out M Γ _ _ p s (h Γ p hΓ)
theorem objOk_some {P : Program} {w : World} {H : Hp} {h : Heap} {a : Addr} {o : HO} (x : ObjOk P w H h a o) : ∃ u, h.get? a = some u := by
  cases o with
  | lst xs => obtain ⟨_, _, _, _, e⟩ := x; exact ⟨_, e⟩
  | tup xs => obtain ⟨_, _, _, ob, e, _⟩ := x; exact ⟨_, e⟩
  | dK kvs => obtain ⟨_, _, _, _, ob, _, _, e, _⟩ := x; exact ⟨_, e⟩
  | dT kvs => obtain ⟨_, _, _, _, ob, _, _, e, _⟩ := x; exact ⟨_, e⟩
  | set S n => obtain ⟨ob, _, _, _, e, _⟩ := x; exact ⟨_, e⟩
  | ins C dx fs => obtain ⟨_, _, _, e, _⟩ := x; exact ⟨_, e⟩
  | own y => exact x
  | xd fs => obtain ⟨_, ⟨od, _, _, e, _⟩, _⟩ := x; exact ⟨_, e⟩
  | rng lo hi => obtain ⟨_, _, _, e⟩ := x; exact ⟨_, e⟩
  | frz ob u => exact ⟨_, x.1⟩
  | tbl ps => obtain ⟨_, e, _⟩ := x; exact ⟨_, e⟩
  | met f y => exact ⟨_, x⟩
  | ext φ => exact x.2.1
def XD (o : Obj) (d : Option Addr) : Prop := o.dict = d ∧ ∃ vs, o.data = .fields vs ∧ vs[2]? = some .none
theorem XD.dk {o o' : Obj} {d : Option Addr} (x : XD o d) (h : o'.dict = o.dict) (f : ∀ vs, o.data = .fields vs → ∃ vs', o'.data = .fields vs' ∧ vs'[2]? = vs[2]?) : XD o' d := by
  obtain ⟨x1, vs, x2, x3⟩ := x
  obtain ⟨vs', y1, y2⟩ := f vs x2
  exact ⟨h.trans x1, vs', y1, y2.trans x3⟩
def CX1 (P : Program) (w : World) : CXT := fun outer H s E e s' => ∃ (ea C t : Addr) (B : Heap) (H' : Hp) (d : Option Addr), e = .ref ea ∧ s'.os = s.os ∧ AllBare s'.gens ∧ Un (frs outer) [] H H' s.heap s'.heap ∧ HOk P w H' s'.heap ∧
  Heap.FlyingW B outer ea (.ref C) (.ref t) s'.heap ∧ (∃ oe, s'.heap.get? ea = some oe ∧ XD oe d) ∧ (∀ dx, d = some dx → ∃ fs, H' dx = some (.xd fs)) ∧
  (∀ b o, s'.heap.get? b = some o → b ∉ frs outer → (H' b ≠ none ∨ ∃ u, s.heap.get? b = some u) → B.get? b = some o) ∧ E (.ref C) d H'
section
variable {X : Cx} {pins : List (Addr × Obj)} {σ : St} {H : Hp} {s : Shared}
theorem cx_leave {B h' : Heap} (I : Inv X pins σ H s) (hst : X.stack = X.env :: X.outer) (hf : X.env.frame = some X.env.locals) (hex : X.ex = []) (hB : B.StaysIn h') (hsm : s.heap.UpToSlots h')
    (hk : ∀ b o, s.heap.get? b = some o → b ∉ frs X.stack → (H b ≠ none ∨ ∃ u, X.s₀.heap.get? b = some u) → B.get? b = some o) :
    Un (frs X.outer) [] X.H₀ H X.s₀.heap h' ∧ HOk X.prog X.w H h' ∧ ∀ b o, h'.get? b = some o → b ∉ frs X.outer → (H b ≠ none ∨ ∃ u, X.s₀.heap.get? b = some u) → B.get? b = some o := by
  have hfs : frs X.stack = X.env.locals :: frs X.outer := by rw [hst]; unfold frs; rw [List.filterMap_cons, hf]
  have old : ∀ b u, X.s₀.heap.get? b = some u → b ≠ X.env.locals := fun b u e z => absurd (Nat.lt_of_lt_of_le (Heap.lt_size e) (by rw [z]; exact I.ok.above)) (Nat.lt_irrefl _)
  have nstk : ∀ b, b ≠ X.env.locals → b ∉ frs X.outer → b ∉ frs X.stack := fun b h1 h2 z => by rw [hfs] at z; rcases List.mem_cons.mp z with z | z; exact h1 z; exact h2 z
  have trk : ∀ b, H b ≠ none → b ∉ frs X.stack := fun b h1 z => h1 (I.stkFree b z)
  have nx : ∀ b : Addr, b ∉ X.ex := fun b => by rw [hex]; simp
  have fr : ∀ b, b ∈ frs X.outer → ∃ o, s.heap.get? b = some o ∧ ∀ vs, o.data ≠ .fields vs := fun b hb => (I.stack.mem (show b ∈ frs X.stack by rw [hfs]; exact List.mem_cons_of_mem _ hb)).2
  have tkeep : ∀ b o, H b ≠ none → s.heap.get? b = some o → h'.get? b = some o := fun b o h1 e => hB b o (hk b o e (trk b h1) (.inl h1))
  have okeep : ∀ b o u, X.s₀.heap.get? b = some u → b ∉ frs X.outer → s.heap.get? b = some o → h'.get? b = some o := fun b o u e0 h2 e => hB b o (hk b o e (nstk b (old b u e0) h2) (.inr ⟨u, e0⟩))
  refine ⟨⟨fun b o e n hb _ => ?_, fun b o e n hb _ => ?_, fun b o e n _ => I.base.free b o e n (nx b), fun b o e _ => ?_, I.base.tups, I.base.frzs, I.base.tbls⟩, fun a o e => ?_, fun b o e hb hc => ?_⟩
  · exact okeep b o o e hb (I.base.keep b o e n hb (nx b))
  · obtain ⟨sl, e1⟩ := I.base.slot b o e n hb (nx b)
    obtain ⟨o1, e2, hd⟩ := fr b hb
    rw [e1] at e2
    cases e2
    obtain ⟨sl', e3⟩ := hsm b _ e1 hd
    exact ⟨sl', e3⟩
  · obtain ⟨o1, e1⟩ := I.base.there b o e (nx b)
    by_cases hb : b ∈ frs X.outer
    · obtain ⟨o2, e2, hd⟩ := fr b hb
      obtain ⟨sl', e3⟩ := hsm b _ e2 hd
      exact ⟨_, e3⟩
    · exact ⟨o1, okeep b o1 o e hb e1⟩
  · refine (I.hok a o e).stay (fun c v hc q => tkeep c v ?_ q) (fun _ q => q) fun _ _ q => q
    rcases hc with z | z
    · rw [z, e]; simp
    · rw [z]; simp
  · rcases hc with h1 | ⟨u, e0⟩
    · cases q : H b with
      | none => exact absurd q h1
      | some ob =>
        obtain ⟨o1, e1⟩ := objOk_some (I.hok b ob q)
        have := tkeep b o1 h1 e1
        rw [e] at this
        cases this
        exact hk b o e1 (trk b h1) (.inl h1)
    · obtain ⟨o1, e1⟩ := I.base.there b u e0 (nx b)
      have := okeep b o1 u e0 hb e1
      rw [e] at this
      cases this
      exact hk b o e1 (nstk b (old b u e0) hb) (.inr ⟨u, e0⟩)
def RaiseX (X : Cx) (E : St → XK) : Prop := ∀ (pins : List (Addr × Obj)) (σ : St) (H : Hp) (s : Shared) (h1 : Heap) (e C : Addr) (vs : List Value), Inv X pins σ H s → Heap.MadeExcOf s.heap h1 e (.ref C) vs → E σ (.ref C) none H → X.xe (.ref e) { s with heap := h1 }
end
section
variable {P : Program} {w : World} {K : PySem.W.Frag} {mg : Str → Option Value} {base : Heap} {N : List Str} {qual : Str} {scope : Scope} {f : Addr} {cd : Value} {A : Around} {outer : List Env} {s : Shared} {H : Hp} {E : XK}
theorem pass_def : Passes (CX1 P w) (cxOf (CX1 P w) P w K mg base N qual scope f cd A outer s H E) (fun _ => E) := by
  intro pins σ H1 s1 e s' I h
  obtain ⟨ea, C, t, B, H', d, rfl, os, bare, un, hok, fl, ⟨oe, hoe, hdo⟩, hdx, hkb, hE⟩ := h
  have I' := I.call' (ch := []) os un hok bare (fun b z => absurd z (by simp))
  show wpAny _ _ _ _ _ _
  refine wpAny_mono (KD.any (E := fun _ _ => False) (kd_leaving _ _) (wpAny_leaves_onW (Q := fun _ s'' => ∃ h', s'' = { s' with heap := h' } ∧ Heap.FlyingW B outer ea (.ref C) (.ref t) h' ∧ s'.heap.UpToSlots h') I.ok.frames rfl fl fun h' x1 x2 => ⟨h', rfl, x1, x2⟩)) ?_ (fun _ _ z => False.elim z.1)
  rintro _ s'' ⟨⟨h', rfl, x1, x2⟩, dk⟩
  obtain ⟨u1, u2, u3⟩ := cx_leave (B := B) (h' := h') I' rfl rfl rfl x1.1 x2 (fun b o e1 e2 e3 => hkb b o e1 e2 (e3.elim .inl fun ⟨u, e0⟩ => .inr (I.base.there b u e0 (by show b ∉ ([] : List Addr); simp))))
  obtain ⟨oe', hoe', _, hd', hg'⟩ := dk ea oe hoe
  exact ⟨ea, C, t, B, H', d, rfl, I'.os, I'.bare, u1, u2, x1, ⟨oe', hoe', hdo.dk hd' hg'⟩, hdx, u3, hE⟩
theorem raise_def : RaiseX (cxOf (CX1 P w) P w K mg base N qual scope f cd A outer s H E) (fun _ => E) := by
  intro pins σ H1 s1 h1 e C vs I hx hE
  show wpAny _ _ _ _ _ _
  have hin : ∀ env ∈ (envOfC qual scope s.heap.objs.size f cd :: outer), ∀ b, env.frame = some b → b ∈ frs (envOfC qual scope s.heap.objs.size f cd :: outer) := fun env he b hb => List.mem_filterMap.mpr ⟨env, he, hb⟩
  have st : (PySem.W.hideAll s1.heap (frs (envOfC qual scope s.heap.objs.size f cd :: outer))).StaysIn s1.heap := fun b o q => PySem.W.of_hideAll _ q
  have ff : s1.heap.FunFrames (PySem.W.hideAll s1.heap (frs (envOfC qual scope s.heap.objs.size f cd :: outer))) (envOfC qual scope s.heap.objs.size f cd :: outer) := PySem.W.funFrames_hide I.stack hin
  obtain ⟨tt, het, _, _⟩ := hx.there
  refine wpAny_mono (KD.any (E := fun _ _ => False) (kd_leaving _ _) (wpAny_leaves_madeW (s := { s1 with heap := h1 }) (Q := fun _ s'' => ∃ h' t, s'' = { s1 with heap := h' } ∧ Heap.FlyingW (PySem.W.hideAll s1.heap (frs (envOfC qual scope s.heap.objs.size f cd :: outer))) outer e (.ref C) (.ref t) h' ∧ h1.UpToSlots h') I.ok.frames rfl st ff hx fun h' t x1 _ _ x4 => ⟨h', t, rfl, x1, x4⟩)) ?_ (fun _ _ z => False.elim z.1)
  rintro _ s'' ⟨⟨h', t, rfl, x1, x4⟩, dk⟩
  obtain ⟨u1, u2, u3⟩ := cx_leave (h' := h') I rfl rfl rfl x1.1 ((Heap.UpToSlots.of_keeps hx.keeps).trans x4) (fun b o e1 e2 _ => PySem.W.hideAll_get _ e1 e2)
  obtain ⟨oe', hoe', _, hd', hg'⟩ := dk e _ het
  exact ⟨e, C, t, _, H1, none, rfl, I.os, I.bare, u1, u2, x1, ⟨oe', hoe', XD.dk ⟨rfl, _, rfl, rfl⟩ hd' hg'⟩, (fun dx z => by cases z), u3, hE⟩
end
theorem passE0 {P : Program} {w : World} {X : Cx} : Passes (CX1 P w) X E0 := fun _ _ _ _ _ _ _ h => by
  obtain ⟨_, _, _, _, _, _, _, _, _, _, _, _, _, _, _, z⟩ := h
  exact z.elim
theorem cx1_false {P : Program} {w : World} {outer : List Env} {H : Hp} {s : Shared} {e : Value} {s' : Shared} (h : CX1 P w outer H s (fun _ _ _ => False) e s') : False := by
  obtain ⟨_, _, _, _, _, _, _, _, _, _, _, _, _, _, _, z⟩ := h
  exact z
section
variable {P : Program} {w : World} {K : PySem.W.Frag} {mg : Str → Option Value} {base : Heap}
theorem Fun.okX {x qual : Str} {st : Stmt} {f : Addr} {fd : FuncData} {N ps : List Str} {k : Nat} {sp : Sp} (F : Fun K x qual st f fd) (S : FnScope N ps (defScope st)) (len : ∀ vs H Q E, sp vs H Q E → vs.length = ps.length)
    (hbody : ∀ (cdv : Value) (A : Around) (outer : List Env) (s : Shared) (H : Hp) (vs : List V) (Q : VK) (E : XK), Room k (A.deeper (envOfC qual (defScope st) s.heap.objs.size f cdv)) → sp vs H Q E →
      ∃ t, PSs (cxOf (CX1 P w) P w K mg base N qual (defScope st) f cdv A outer s H E) (defBody st) t ∧ t { nx := fun _ H' => Q .non H', rt := Q } (start N vs) H) : FnOk P w K mg base (CX1 P w) (k + 1) f fd ps sp := by
  obtain ⟨oc, od, kV, doc, pm, an, cdv, ct, osl, rfl, lk, hcd⟩ := F.ex
  exact fn_of lk hcd S len fun A outer s H vs Q E hr hsp => hbody cdv A outer s H vs Q E hr hsp
theorem FnOkN.ok {CX : CXT} {k : Nat} {f : Addr} {fd : FuncData} {ps : List Str} {sp : Sp} (F : FnOkN P w K mg base CX k f fd ps sp) : FnOk P w K mg base CX k f fd ps sp :=
  ⟨F.len, fun A outer s H args us vs Q E hr => F.run A outer s H args us vs Q E hr.n (.inl hr.hd)⟩
end
theorem exc_of_in {K : PySem.W.Frag} {h : Heap} {C : Addr} {bmB : List Value} {newId : String} (XK : K.In h) (q : PySem.W.excIn K C bmB newId = true) :
    ∃ bm N nm qn bs hd sn sub ab col dd k0 k1 k2 k3 k5 mN, h.get? C = some (excClassObj nm qn C N bs bm hd sn sub ab col dd k0 k1 k2 k3 k5 newId) ∧ h.Ns N mN ∧ mN "__init__" = none ∧ OwnTail h bmB bm := by
  unfold PySem.W.excIn at q
  split at q
  next dd cd sl ho =>
    split at q
    next C' bm k0 k1 k2 k3 n k5 hm hs =>
      simp only [Bool.and_eq_true, beq_iff_eq, Bool.not_eq_true'] at q
      obtain ⟨⟨⟨⟨⟨e1, e2⟩, e3⟩, e4⟩, e5⟩, e6⟩ := q
      subst e1 e2
      cases cd with
      | mk nm bs mro ns qn hd sn sub ab col del =>
        simp only at hm e3 e5 e6
        subst hm e3
        have z : sl = #[k0, k1, k2, k3, some (.builtin n), k5] := by
          cases sl with
          | mk l => simp only at hs; rw [hs]
        subst z
        exact ⟨bm, ns, nm, qn, bs, hd, sn, sub, ab, col, dd, k0, k1, k2, k3, k5, _, XK _ _ ho, .of_isNs (PySem.W.isNs_of_in XK e5), PySem.W.nsMap_none_of_in XK e5 e6, PySem.W.tail_of_in XK e4⟩
    next => cases q
  next => cases q
def sRaise (C : Addr) (E : St → XK) (t : TA) : TS := fun _ σ H => t σ H fun vs H1 => vs.length ≤ sizeLine ∧ E σ (.ref C) none H1
theorem ap_raise {C : Addr} {E : St → XK} {t : TA} {D : Ends} {σ : St} {H : Hp} : sRaise C E t D σ H = t σ H fun vs H1 => vs.length ≤ sizeLine ∧ E σ (.ref C) none H1 := propext Iff.rfl
section
variable {X : Cx}
theorem ps_raise {x : Str} {C : Addr} {E : St → XK} {B newId initId : String} {bmB : List Value} {e₀ : Expr} {rest : List Expr} {t : TA} {np cpos pos : Pos} (FB : ExcBaseFacts B newId initId bmB) (hq : PySem.W.excIn X.K C bmB newId = true) (hm : X.mg x = some (.ref C))
    (hrx : RaiseX X E) (hc : X.calm = true) (ha : PA X (e₀ :: rest) t) (hg : X.env.kindOf x = some .globalImplicit := by kernel_rfl) (hd : (x == ("__debug__" : Str)) = false := by kernel_rfl) (hs : noStars (e₀ :: rest) = true := by kernel_rfl) :
    PS X (.Raise (some (.Call (.Name x np) (e₀ :: rest) [] cpos)) none pos) (sRaise C E t) := by
  intro pins s σ H D I h
  obtain ⟨bm, N, nm, qn, bs, hdct, sn, sub, ab, col, dd, k0, k1, k2, k3, k5, mN, g1, g2, g3, g4⟩ := exc_of_in I.ok.mod.kin hq
  have he := starEach_cons (es := rest) (env := X.env) (noStars_tail hs).1
  refine wpAny_Raise_call_subT (C := C) (nm := nm) (q := qn) (N := N) (bs := bs) (bm := bm) (hdct := hdct) (sn := sn) (sub := sub) (ab := ab) (col := col) (dd := dd) (k0 := k0) (k1 := k1) (k2 := k2) (k3 := k3) (k5 := k5)
    FB (mN := mN) (g4.hasType FB.hasBase) (I.ok.hd hc) (backTo_any hs) g3 (ld_glob I hg hm ⟨rfl, ?_⟩ hd)
  have ha' := ha cpos pins s σ H _ I h
  rw [he] at ha' ⊢
  refine Calls.evalArgs_plain (wpAny_mono ha' (fun vs s2 h2 => ?_) fun _ _ y => y)
  obtain ⟨xs, H2, I2, r, z, q⟩ := h2
  exact ⟨rfl, by rw [← r.length]; exact z, I2.bk _ _ g1, g2.keeps I2.bk, g4.keeps I2.bk, fun h' e hx => hrx pins σ H2 s2 h' e C vs I2 hx q⟩
end
end L2

namespace L2
open PySem PySem.Spec PyProof.Rows
def excO (a : Addr) (c : Value) (d : Option Addr) : HO := .ext fun h => ∃ o, h.get? a = some o ∧ o.cls = c ∧ XD o d
theorem excO_ok {P : Program} {w : World} {H : Hp} {h : Heap} {a : Addr} {c : Value} {d : Option Addr} {o : Obj} (e : h.get? a = some o) (h1 : o.cls = c) (h2 : XD o d) : ObjOk P w H h a (excO a c d) :=
  ⟨⟨o, e, h1, h2⟩, ⟨o, e⟩, fun _ _ ⟨o, e, q⟩ k => ⟨o, k o e, q⟩⟩
theorem un_back {l : List Env} {H1 H' : Hp} {h1 h' h5 B : Heap} (u : Un (frs l) [] H1 H' h1 h') (hk : ∀ b o, h'.get? b = some o → b ∉ frs l → (H' b ≠ none ∨ ∃ u, h1.get? b = some u) → B.get? b = some o) (hB : B.StaysIn h5) (hsm : h'.UpToSlots h5)
    (hfr : ∀ b ∈ frs l, ∃ o, h'.get? b = some o ∧ ∀ vs, o.data ≠ .fields vs) : Un (frs l) [] H1 H' h1 h5 where
  keep := fun b o e n hb hx => hB b o (hk b o (u.keep b o e n hb hx) hb (.inr ⟨o, e⟩))
  slot := fun b o e n hb hx => by
    obtain ⟨sl, e1⟩ := u.slot b o e n hb hx
    obtain ⟨o1, e2, hd⟩ := hfr b hb
    rw [e1] at e2
    cases e2
    obtain ⟨sl', e3⟩ := hsm b _ e1 hd
    exact ⟨sl', e3⟩
  free := u.free
  there := fun b o e hx => by
    obtain ⟨o1, e1⟩ := u.there b o e hx
    by_cases hb : b ∈ frs l
    · obtain ⟨o2, e2, hd⟩ := hfr b hb
      obtain ⟨sl, e3⟩ := hsm b _ e2 hd
      exact ⟨_, e3⟩
    · exact ⟨o1, hB b o1 (hk b o1 e1 hb (.inr ⟨o, e⟩))⟩
  tups := u.tups
  frzs := u.frzs
  tbls := u.tbls
theorem hok_back {P : Program} {w : World} {l : List Env} {H' : Hp} {h1 h' h5 B : Heap} (hok : HOk P w H' h') (hk : ∀ b o, h'.get? b = some o → b ∉ frs l → (H' b ≠ none ∨ ∃ u, h1.get? b = some u) → B.get? b = some o) (hB : B.StaysIn h5)
    (hf : ∀ b ∈ frs l, H' b = none) : HOk P w H' h5 := fun a o e => by
  refine (hok a o e).stay (fun c v hc q => hB c v (hk c v q ?_ (.inl ?_))) (fun _ q => q) fun _ _ q => q
  · intro z
    have := hf c z
    rcases hc with rfl | hc
    · rw [e] at this; cases this
    · rw [hc] at this; cases this
  · rcases hc with rfl | hc
    · rw [e]; simp
    · rw [hc]; simp
section
variable {X : Cx} {pins : List (Addr × Obj)} {σ : St} {H : Hp} {s : Shared}
theorem Inv.track {a : Addr} {o : HO} (I : Inv X pins σ H s) (hn : H a = none) (h0 : X.s₀.heap.get? a = none) (hL : a ≠ X.env.locals) (hc : ∀ x c, X.env.cells.lookup x = some c → c ≠ a) (hp : ∀ p ∈ X.pn ++ pins, p.1 ≠ a)
    (ho : ObjOk X.prog X.w (upd H a o) s.heap a o) : Inv X pins σ (upd H a o) s where
  ok := I.ok
  os := I.os
  bare := I.bare
  base := by
    have ne : ∀ b u, X.s₀.heap.get? b = some u → b ≠ a := fun b u e z => by rw [z, h0] at e; cases e
    refine ⟨I.base.keep, I.base.slot, fun b u e n hx => by rw [upd_ne (ne b u e)]; exact I.base.free b u e n hx, I.base.there, fun b xs q => ?_, fun b ob u q => ?_, fun b ps q => ?_⟩
    · have := I.base.tups b xs q
      rw [upd_ne (fun z => by rw [z, hn] at this; cases this)]; exact this
    · have := I.base.frzs b ob u q
      rw [upd_ne (fun z => by rw [z, hn] at this; cases this)]; exact this
    · obtain ⟨m, e⟩ := I.base.tbls b ps q
      exact ⟨m, by rw [upd_ne (fun z => by rw [z, hn] at e; cases e)]; exact e⟩
  loc := I.loc
  cell := I.cell
  free := by rw [upd_ne (Ne.symm hL)]; exact I.free
  freeC := fun x c e => by rw [upd_ne (hc x c e)]; exact I.freeC x c e
  pin := fun p h => by
    obtain ⟨h1, h2, h3⟩ := I.pin p h
    exact ⟨h1, by rw [upd_ne (hp p h)]; exact h2, h3⟩
  hok := fun b u e => by
    by_cases hb : b = a
    · subst hb
      rw [upd_same] at e
      cases e
      exact ho
    · rw [upd_ne hb] at e
      refine (I.hok b u e).stay (fun _ _ _ q => q) (fun c q => ?_) fun c xs q => ?_
      · rw [upd_ne (fun z => by rw [z, hn] at q; cases q)]; exact q
      · rw [upd_ne (fun z => by rw [z, hn] at q; cases q)]; exact q
  len := I.len
theorem unbind_ok {A : Around} {E : Value → Shared → Prop} {i : Nat} {n : Str} {pos : Pos} {Q : Unit → Shared → Prop} (I : Inv X pins σ H s) (hN : X.N.Nodup) (hi : X.N[i]? = some n) (hn : X.env.scope.names.lookup n = some .local)
    (h : ∀ s', Inv X pins (σ.set i none) H s' → Q () s') : wpAny (model X.prog X.w) A (do bindName X.env n .none; unbindBehindTheSuite X.env n pos) Q E s := by
  have hiσ : i < σ.length := by rw [I.len]; exact (List.getElem?_eq_some_iff.mp hi).1
  refine wpAny_bind (wpAny_bindName (store_ok (v := .non) I hN hi (.inl hn) rfl (fun s1 I1 => ?_) (.inr hn)))
  obtain ⟨m, hm, hl⟩ := id I1.loc
  obtain ⟨u, _, hu⟩ := hl i n .non hi (by rw [List.getElem?_set_self hiσ]) (.inl hn)
  have hv : ∃ v, m n = some v := by
    rcases hu with ⟨_, e⟩ | ⟨k, _⟩
    · exact ⟨_, e⟩
    · have k' : X.env.scope.names.lookup n = some .cell ∨ X.env.scope.names.lookup n = some .free := k
      rw [hn] at k'; rcases k' with z | z <;> cases z
  obtain ⟨v, hv⟩ := hv
  have hcls : (X.env.scope.kind == .class || (X.env.scope.kind == .module && X.env.locals != X.env.globals)) = false := by rw [I.ok.kind]; rfl
  unfold unbindBehindTheSuite
  refine wpAny_onRaise (wpAny_unbindName_local hn hm hv hcls fun h' w' hn' hs => h _ ?_)
  have older : ∀ b o, X.s₀.heap.get? b = some o → b ≠ X.env.locals := fun b o e => Nat.ne_of_lt (Nat.lt_of_lt_of_le (Heap.lt_size e) I.ok.above)
  refine ⟨I1.ok, I1.os, I1.bare, ⟨fun b o e k hb hx => (hs.2 b (older b o e)).trans (I1.base.keep b o e k hb hx), fun b o e k hb hx => ?_, I1.base.free, fun b o e hx => ?_, I1.base.tups, I1.base.frzs, I1.base.tbls⟩,
    ⟨_, hn', fun j y v' e1 e2 e3 => ?_⟩, fun y c e => ?_, I1.free, I1.freeC, fun p hp => ?_, fun b ob e => ?_, by rw [List.length_set]; exact I.len⟩
  · obtain ⟨sl, e1⟩ := I1.base.slot b o e k hb hx
    exact ⟨sl, (hs.2 b (older b o e)).trans e1⟩
  · obtain ⟨o', e1⟩ := I1.base.there b o e hx
    exact ⟨o', (hs.2 b (older b o e)).trans e1⟩
  · by_cases hj : j = i
    · subst hj
      rw [List.getElem?_set_self hiσ] at e2
      cases e2
    · rw [List.getElem?_set_ne (Ne.symm hj)] at e2
      obtain ⟨u', r', q⟩ := hl j y v' e1 (by rw [List.getElem?_set_ne (Ne.symm hj)]; exact e2) e3
      refine ⟨u', r', ?_⟩
      rcases q with ⟨k, e⟩ | ⟨k, c, e, z⟩
      · refine .inl ⟨k, ?_⟩
        have : y ≠ n := fun e => hj (nodup_ix hN e1 (e ▸ hi))
        simp [this, e]
      · exact .inr ⟨k, c, e, z.sameBut hs (I1.cne y c e)⟩
  · obtain ⟨w2, z⟩ := I1.cell y c e
    exact ⟨w2, z.sameBut hs (I1.cne y c e)⟩
  · obtain ⟨e, k, ne, nf, d⟩ := I1.pin p hp
    exact ⟨(hs.2 p.1 ne).trans e, k, ne, nf, d⟩
  · refine (I1.hok b ob e).stay (fun c w2 hc q => (hs.2 c ?_).trans q) (fun _ q => q) fun _ _ q => q
    rintro rfl
    have := I1.free
    rcases hc with rfl | hc
    · rw [this] at e; cases e
    · rw [this] at hc; cases hc
def Ends.un (D : Ends) (i : Nat) : Ends := ⟨fun σ H => D.nx (σ.set i none) H, D.rt, fun σ H => D.bk (σ.set i none) H, fun σ H => D.ct (σ.set i none) H⟩
theorem Inv.pnTo {xe : Value → Shared → Prop} (I : Inv X pins σ H s) : Inv { X with pn := X.pn ++ pins, xe := xe } [] σ H s :=
  ⟨⟨I.ok.mod, I.ok.kind, I.ok.glob, I.ok.blt, I.ok.above, I.ok.inj, I.ok.has, I.ok.cab, I.ok.hd, I.ok.frames, I.ok.stk, I.ok.exf, I.ok.bs, I.ok.bsz, I.ok.noex, I.ok.exfs, I.ok.funs, I.ok.frf⟩, I.os, I.bare, I.base, I.loc, I.cell, I.free, I.freeC,
    fun p h => I.pin p (by simpa using h), I.hok, I.len⟩
theorem Inv.pnFrom {xe : Value → Shared → Prop} {pins' : List (Addr × Obj)} (I : Inv { X with pn := X.pn ++ pins, xe := xe } pins' σ H s) : Inv X pins σ H s :=
  ⟨⟨I.ok.mod, I.ok.kind, I.ok.glob, I.ok.blt, I.ok.above, I.ok.inj, I.ok.has, I.ok.cab, I.ok.hd, I.ok.frames, I.ok.stk, I.ok.exf, I.ok.bs, I.ok.bsz, I.ok.noex, I.ok.exfs, I.ok.funs, I.ok.frf⟩, I.os, I.bare, I.base, I.loc, I.cell, I.free, I.freeC,
    fun p h => I.pin p (List.mem_append_left _ h), I.hok, I.len⟩
theorem Inv.markTo {e : Option Value} (I : Inv X pins σ H s) : Inv { X with A := X.A.mark e, calm := false, xe := fun _ _ => False } pins σ H s :=
  ⟨⟨I.ok.mod, I.ok.kind, I.ok.glob, I.ok.blt, I.ok.above, I.ok.inj, I.ok.has, I.ok.cab, (fun z => by cases z), I.ok.frames, I.ok.stk, I.ok.exf, I.ok.bs, I.ok.bsz, I.ok.noex, I.ok.exfs, I.ok.funs, I.ok.frf⟩, I.os, I.bare, I.base, I.loc, I.cell, I.free, I.freeC,
    I.pin, I.hok, I.len⟩
theorem Inv.markFrom {e : Option Value} {xe : Value → Shared → Prop} (ok : X.Ok) (I : Inv { X with A := X.A.mark e, calm := false, xe := xe } pins σ H s) : Inv X pins σ H s :=
  ⟨ok, I.os, I.bare, I.base, I.loc, I.cell, I.free, I.freeC, I.pin, I.hok, I.len⟩
end
end L2

namespace L2
open PySem PySem.Spec PyProof.Rows
theorem ga_kind : builtinKind "BaseException.__getattribute__" = some Manifest.AttrKind.slot := by decide +kernel
theorem ga_split : splitId "BaseException.__getattribute__" = some ("BaseException", "__getattribute__") := by decide +kernel
theorem ga_check {M : Model} {A : Around} {E : Value → Shared → Prop} {s : Shared} {x : Addr} {nm : Value} {Q : Unit → Shared → Prop} (l : PySem.W.Looks M s.heap (isInstance (.ref x) (.type "BaseException")) true) (q : Q () s) :
    wpAny M A (checkBuiltinCall "BaseException.__getattribute__" { pos := [.ref x, nm] }) Q E s :=
  PySem.W.check_slot (i := "BaseException.__getattribute__") (self := .ref x) (rest := [nm]) (kw := []) ga_kind ga_split l (F.args_bexc_ga _ _) q
theorem kin_own {prog : Program} {w : World} {A : Around} {E : Value → Shared → Prop} {s : Shared} {K : PySem.W.Frag} {x D : Addr} {ox : Obj} {odo : Option Obj} {name : Str} {g a : Value} {Q : Option Value → Shared → Prop}
    (X : K.In s.heap) (I : PySem.W.InstAt s.heap x ox D odo)
    (hga : PySem.W.findIn K (.ref D) "__getattribute__" = some (some (.builtin "BaseException.__getattribute__")))
    (hgn : PySem.W.findIn K (.ref D) "__getattr__" = some none)
    (hsub : PySem.W.subIn K (.ref D) (.type "BaseException") = some true)
    (hf : PySem.W.findObj K D odo name = some (.bind g a))
    (h : ∀ A', wpAny (model prog w) A' (call g [a, .ref x, .ref D]) (fun v s' => wpAny (model prog w) A (handedOut v) (fun v s'' => Q (some v) s'') (fun _ _ => False) s') (fun _ _ => False) { s with toks := s.toks + 1 }) :
    wpAny (model prog w) A (getAttr? (.ref x) name) Q E s := by
  obtain ⟨hh, gg, dd, tt, os⟩ := s
  have L0 : ∀ {M}, PySem.W.Looks M hh (typeOf (.ref x)) (.ref D) := I.type
  have L1 : ∀ {M}, PySem.W.Looks M hh (typeLookup (.ref D) "__getattribute__") _ := PySem.W.looks_findIn X hga
  have L2 : ∀ {M}, PySem.W.Looks M hh (typeLookup (.ref D) "__getattr__") _ := PySem.W.looks_findIn X hgn
  have L3 : ∀ {M}, PySem.W.Looks M hh (isSubtype (.ref D) (.type "BaseException")) _ := PySem.W.looks_subIn X hsub
  have L4 : ∀ {M}, PySem.W.Looks M hh (Builtin.ObjectAttr.find (.ref x) (.ref D) name) _ := PySem.W.looks_find X I hf
  have L5 : ∀ {M}, PySem.W.Looks M hh (isInstance (.ref x) (.type "BaseException")) true := by
    intro M; unfold isInstance; exact PySem.W.Looks.andThen (f := fun t => isSubtype t (.type "BaseException")) L0 L3
  have f3 := F.excAttr_ValueError.ga.bind (Value.ref x)
  unfold getAttr?
  refine wpAny_bind (wpAny_mkText ?_)
  unfold getAttrBy?
  refine wpAny_bind (wpAny_attempt ?_)
  unfold getAttrBy
  refine wpAny_holding (wpAny_bind (L0.at (wpAny_bind (L1.at ?_))))
  refine wpAny_ite_false rfl ?_
  unfold getAttrByItsOwn
  refine wpAny_bind ?_
  unfold hookBefore
  refine wpAny_ite_true rfl (L2.at ?_)
  refine wpAny_bind (wpAny_attempt (wpAny_holding ?_))
  unfold callGetattribute
  refine wpAny_ite_false rfl ?_
  unfold boundAndCalled
  refine wpAny_bind (wpAny_of_eq f3 ?_)
  refine wpAny_call (codeAny_call_builtin F.excAttr_ValueError.ga.plain F.entry_bexc_ga ?_)
  refine ga_check L5 ?_
  show wpAny _ _ (Builtin.«object.__getattribute__» { pos := [Value.ref x, Value.str name _] }) _ _ _
  unfold Builtin.«object.__getattribute__»
  refine wpAny_bind ?_
  unfold slotArgs
  refine wpAny_ite_false rfl (wpAny_ite_false rfl (wpAny_pure ?_))
  refine wpAny_bind (wpAny_pure ?_)
  refine wpAny_bind (L0.at (wpAny_bind (L4.at ?_)))
  show wpAny _ _ (Builtin.ObjectAttr.bindTo g a (.ref x) (.ref D)) _ _ _
  unfold Builtin.ObjectAttr.bindTo
  refine wpAny_bind (wpAny_holding (wpAny_mono (h _) (fun v s' z => ?_) (fun _ _ z => z.elim)))
  refine wpAny_pure ?_
  refine wpAny_mono z (fun v s' z => wpAny_pure z) (fun _ _ z => z.elim)
structure ExcC (K : PySem.W.Frag) (C : Addr) : Prop where
  ga : PySem.W.findIn K (.ref C) "__getattribute__" = some (some (.builtin "BaseException.__getattribute__"))
  gn : PySem.W.findIn K (.ref C) "__getattr__" = some none
  sb : PySem.W.subIn K (.ref C) (.type "BaseException") = some true
  cl : (PySem.W.clsIn K C).isSome = true
  ha : PySem.W.findIn K (.ref C) "__class__" = some (some (.builtin "object.__class__"))
  hn : PySem.W.specialIn K (.builtin "object.__class__") "__get__" = some (some (.builtin "getset_descriptor.__get__"))
  htk : PySem.W.takesIn K (.builtin "object.__class__") = some true
  hm : PySem.W.mroIn K C (.type "object") = some true
theorem findObj_any {K : PySem.W.Frag} {C : Addr} {od : Option Obj} {name : Str} {a g : Value} (hc : (PySem.W.clsIn K C).isSome = true) (ha : PySem.W.findIn K (.ref C) name = some (some a)) (hg : PySem.W.specialIn K a "__get__" = some (some g)) (ht : PySem.W.takesIn K a = some true) :
    PySem.W.findObj K C od name = some (.bind g a) := by
  obtain ⟨cd, e⟩ := Option.isSome_iff_exists.mp hc
  unfold PySem.W.findObj
  rw [e, Option.bind_some, ha, Option.bind_some]
  show (PySem.W.specialIn K a "__get__").bind _ = _
  rw [hg, Option.bind_some]
  show (PySem.W.takesIn K a).bind _ = _
  rw [ht, Option.bind_some]
def ExcAt (x C : Addr) (h : Heap) : Prop := ∃ ox od, PySem.W.InstAt h x ox C od
theorem kitx_exc {K : PySem.W.Frag} {x C : Addr} (e : ExcC K C) : PySem.W.KitX K (.ref x) (.ref C) (ExcAt x C) where
  ty := fun _ _ _ ⟨_, _, I⟩ => I.type
  it := fun _ h XK _ => by
    obtain ⟨cd, hc⟩ := Option.isSome_iff_exists.mp e.cl
    unfold PySem.W.clsIn at hc
    split at hc
    next c' d' cd' sl' ho =>
      intro A' Q' E' s' k q
      unfold isType loadHead
      exact wpAny_bind (wpAny_loadPart (k _ _ (XK _ _ ho)) (wpAny_pure q))
    next => cases hc
  ne := fun h tp dd its n sl XK htp => by
    obtain ⟨cd, hc⟩ := Option.isSome_iff_exists.mp e.cl
    refine Bool.eq_false_iff.mpr fun q => ?_
    have z : C = tp := Value.ref.inj (beq_iff_eq.mp q)
    subst z
    unfold PySem.W.clsIn at hc
    split at hc
    next c' d' cd' sl' ho =>
      have z := (XK _ _ ho).symm.trans htp
      cases z
    next => cases hc
  ca := fun {prog w A E Q s} XK I k => by
    obtain ⟨ox, od, I⟩ := I
    have hf := findObj_any (od := od) e.cl e.ha e.hn e.htk
    exact kin_own XK I e.ga e.gn e.sb hf fun A' => wpAny_call (PySem.W.class_get (s := { s with toks := s.toks + 1 }) (ox := ox) (od := od) XK I e.hm (PySem.W.handed_on rfl k))
def TyX (K : PySem.W.Frag) (H : Hp) (x : V) (t : Value) : Prop := TyOf K H x t ∨ ∃ a C, x = .ref a ∧ t = .ref C ∧ H a = some (excO a (.ref C) none) ∧ ExcC K C
theorem excAt_of {P : Program} {w : World} {H : Hp} {h : Heap} {a C : Addr} (x : HOk P w H h) (e : H a = some (excO a (.ref C) none)) : ExcAt a C h := by
  obtain ⟨⟨o, e1, e2, e3, vs, e4, _⟩, _⟩ := (show ObjOk P w H h a (excO a (.ref C) none) from x a _ e)
  refine ⟨o, none, e1, e2, ?_, ?_⟩
  · unfold PySem.W.notCls; rw [e4]
  · rw [e3]; trivial
def rIsiG (K : PySem.W.Frag) : List V → Hp → VK → Prop := fun vs H Q => match vs with
  | [x, .ty n] => ∃ t b, TyX K H x t ∧ PySem.W.kitOne K t (.type n) = some b ∧ Q (.bl b) H
  | [x, .ref c] => ∃ t b, TyX K H x t ∧ (PySem.W.kitOne K t (.ref c) = some b ∨ ∃ (a C : Addr) (cs : List Addr), x = .ref a ∧ t = .ref C ∧ H a = some (excO a (.ref C) none) ∧ ExcC K C ∧ H c = some (.tup (cs.map V.ref)) ∧ PySem.W.kitAny K t (cs.map Value.ref) = some b) ∧ Q (.bl b) H
  | _ => False
theorem vals_refs : ∀ {cs : List Addr} {us : List Value}, Vals (cs.map V.ref) us → us = cs.map Value.ref
  | [], _, .nil => rfl
  | c :: r, _, .cons h t => by
    have e : _ = Value.ref c := h
    rw [e, vals_refs t]; rfl
theorem call_isiG {X : Cx} : CallR X (.builtin "isinstance") (rIsiG X.K) := by
  intro pins s σ H xs us Q I r h
  match xs, h with
  | [x, .ty n], h =>
    obtain ⟨t, b, ht, hk, q⟩ := h
    obtain ⟨u, v, rfl, r1, r2⟩ := vals2 r
    cases (show v = Value.type n from r2)
    rcases ht with ht | ⟨a, C, rfl, rfl, hH, hC⟩
    · exact isinst_ok I r1 ht hk fun tk => ⟨.bl b, H, I.tok _, rfl, q⟩
    · cases (show u = Value.ref a from r1)
      exact PySem.W.kia_one (kitx_exc hC) I.kIn (excAt_of I.hok hH) hk (fun z => by cases z) fun tk => ⟨.bl b, H, I.tok _, rfl, q⟩
  | [x, .ref c], h =>
    obtain ⟨t, b, ht, hk, q⟩ := h
    obtain ⟨u, v, rfl, r1, r2⟩ := vals2 r
    cases (show v = Value.ref c from r2)
    rcases hk with hk | ⟨a, C, cs, rfl, rfl, hH, hC, hc, hk⟩
    · rcases ht with ht | ⟨a, C, rfl, rfl, hH, hC⟩
      · exact isinst_ok I r1 ht hk fun tk => ⟨.bl b, H, I.tok _, rfl, q⟩
      · cases (show u = Value.ref a from r1)
        exact PySem.W.kia_one (kitx_exc hC) I.kIn (excAt_of I.hok hH) hk (fun z => by cases z) fun tk => ⟨.bl b, H, I.tok _, rfl, q⟩
    · cases (show u = Value.ref a from r1)
      obtain ⟨_, its, rv, ⟨ob, e1, e2, n, e3⟩⟩ := (show ObjOk X.prog X.w H s.heap c (.tup (cs.map V.ref)) from I.hok c _ hc)
      have ei := vals_refs rv
      subst ei
      obtain ⟨oc, dd, od, sl⟩ := ob
      cases e2
      cases e3
      exact PySem.W.kia_tup (kitx_exc hC) I.kIn (excAt_of I.hok hH) e1 hk (fun z => by cases z) fun tk => ⟨.bl b, H, I.tok _, rfl, q⟩
theorem call_isiGK {X : Cx} {K : PySem.W.Frag} (hK : X.K = K) : CallR X (.builtin "isinstance") (rIsiG K) := hK ▸ call_isiG
def excOk (K : PySem.W.Frag) (C : Addr) : Bool :=
  PySem.W.findIn K (.ref C) "__getattribute__" == some (some (.builtin "BaseException.__getattribute__")) && PySem.W.findIn K (.ref C) "__getattr__" == some none && PySem.W.subIn K (.ref C) (.type "BaseException") == some true && (PySem.W.clsIn K C).isSome && PySem.W.findIn K (.ref C) "__class__" == some (some (.builtin "object.__class__")) &&
  PySem.W.specialIn K (.builtin "object.__class__") "__get__" == some (some (.builtin "getset_descriptor.__get__")) && PySem.W.takesIn K (.builtin "object.__class__") == some true && PySem.W.mroIn K C (.type "object") == some true
theorem excOk_of {K : PySem.W.Frag} {C : Addr} (h : excOk K C = true) : ExcC K C := by
  unfold excOk at h
  simp only [Bool.and_eq_true, beq_iff_eq] at h
  obtain ⟨⟨⟨⟨⟨⟨⟨h1, h1'⟩, h1''⟩, h2⟩, h3⟩, h4⟩, h5⟩, h6⟩ := h
  exact ⟨h1, h1', h1'', h2, h3, h4, h5, h6⟩
def errAll (K : PySem.W.Frag) (b : Addr) (cs : List Addr) : Bool :=
  cs.all fun c => excOk K c && PySem.W.exmOne K (.ref c) (.ref b) == some true && PySem.W.kitOne K (.ref c) (.type "ValueError") == some true && PySem.W.kitOne K (.ref c) (.ref b) == some true &&
    cs.all fun d => PySem.W.kitOne K (.ref c) (.ref d) == some (c == d)
structure Err (K : PySem.W.Frag) (b : Addr) (cs : List Addr) (c : Addr) : Prop where
  ex : ExcC K c
  em : PySem.W.exmOne K (.ref c) (.ref b) = some true
  ve : PySem.W.kitOne K (.ref c) (.type "ValueError") = some true
  ba : PySem.W.kitOne K (.ref c) (.ref b) = some true
  kd : ∀ d ∈ cs, PySem.W.kitOne K (.ref c) (.ref d) = some (c == d)
theorem err_of {K : PySem.W.Frag} {b : Addr} {cs : List Addr} (h : errAll K b cs = true) {c : Addr} (hc : c ∈ cs) : Err K b cs c := by
  unfold errAll at h
  have h := List.all_eq_true.mp h c hc
  simp only [Bool.and_eq_true, beq_iff_eq] at h
  obtain ⟨⟨⟨⟨h1, h2⟩, h3⟩, h4⟩, h5⟩ := h
  exact ⟨excOk_of h1, h2, h3, h4, fun d hd => by have := List.all_eq_true.mp h5 d hd; simpa using this⟩
theorem Err.any {K : PySem.W.Frag} {b : Addr} {cs : List Addr} {c : Addr} (E : Err K b cs c) : ∀ {ds : List Addr}, (∀ d ∈ ds, d ∈ cs) → PySem.W.kitAny K (.ref c) (ds.map Value.ref) = some (ds.contains c)
  | [], _ => rfl
  | d :: r, h => by
    show (match PySem.W.kitOne K (.ref c) (.ref d) with | some true => some true | some false => PySem.W.kitAny K (.ref c) (r.map Value.ref) | none => none) = _
    rw [E.kd d (h d List.mem_cons_self), Err.any E (fun x hx => h x (List.mem_cons_of_mem _ hx)), List.contains_cons]
    cases (c == d) <;> rfl
theorem pe_globE {X : Cx} {x : Str} {v : V} {pos : Pos} (h : ∃ u, X.mg x = some u ∧ RelV v u) (hg : X.env.kindOf x = some .globalImplicit := by kernel_rfl) (hd : (x == ("__debug__" : Str)) = false := by kernel_rfl) : PE X (.Name x pos) (tC v) := by
  obtain ⟨u, h1, h2⟩ := h
  exact pe_glob hg h1 h2 hd
theorem pe_globR {X : Cx} {x : Str} {c : Addr} {pos : Pos} (h : X.mg x = some (.ref c)) (hg : X.env.kindOf x = some .globalImplicit := by kernel_rfl) (hd : (x == ("__debug__" : Str)) = false := by kernel_rfl) : PE X (.Name x pos) (tC (.ref c)) := pe_glob hg h rfl hd
theorem handIn_exc {ea : Addr} {c : Value} {d : Option Addr} {H : Hp} (h : H ea = some (excO ea c d)) : HandIn (some (.ref ea)) H :=
  .inr ⟨ea, _, rfl, h, fun _ ⟨o, e, _, _, vs, q1, q2⟩ => ⟨o, vs, e, q1, q2⟩⟩
theorem HandIn.same {o : Option Value} {H H' : Hp} (h : HandIn o H) (s : Same H H') : HandIn o H' := by
  rcases h with h | ⟨ea, φ, e1, e2, e3⟩
  · exact .inl h
  · exact .inr ⟨ea, φ, e1, s _ _ e2, e3⟩
end L2

namespace L2
open PySem PySem.Spec PyProof.Rows
def up (t : TE) : TE := fun σ H R => ∃ R', t σ H R' ∧ ∀ x H, R' x H → R x H
def upA (t : TA) : TA := fun σ H R => ∃ R', t σ H R' ∧ ∀ x H, R' x H → R x H
theorem PE.up {X : Cx} {e : Expr} {t : TE} (h : PE X e t) : PE X e (up t) := fun pins s σ H Q I ⟨R', h1, h2⟩ => thn (h pins s σ H R' I h1) fun _ _ ⟨v, H', I', r, q⟩ => ⟨v, H', I', r, h2 v H' q⟩
theorem PA.up {X : Cx} {es : List Expr} {t : TA} (h : PA X es t) : PA X es (upA t) := fun pos pins s σ H Q I ⟨R', h1, h2⟩ => thn (h pos pins s σ H R' I h1) fun _ _ ⟨v, H', I', r, q⟩ => ⟨v, H', I', r, h2 v H' q⟩
def rFldX (K : PySem.W.Frag) (f : Str) (x : V) (H : Hp) (Q : VK) : Prop := match x with
  | .ref a => ∃ C dx fs v, H a = some (.ins C dx fs) ∧ Cls K C ∧ NoAttr K C f ∧ fs.lookup f = some v ∧ Q v H
  | _ => False
def tFldX (K : PySem.W.Frag) (ta : TE) (f : Str) : TE := fun σ H Q => ta σ H fun x H1 => rFldX K f x H1 Q
theorem ap_fld {K : PySem.W.Frag} {ta : TE} {f : Str} {σ : St} {H : Hp} {Q : VK} : tFldX K ta f σ H Q = ta σ H fun x H1 => rFldX K f x H1 Q := propext Iff.rfl
def rSetX (K : PySem.W.Frag) (f : Str) (y x : V) (H : Hp) (Q : Hp → Prop) : Prop := match x with
  | .ref a => ∃ C dx fs, H a = some (.ins C dx fs) ∧ Cls K C ∧ NoAttr K C f ∧ fs.length < 1000 ∧ Q (upd H a (.ins C dx (putF f y fs)))
  | _ => False
def sFldX (K : PySem.W.Frag) (ta tv : TE) (f : Str) : TS := fun D σ H => tv σ H fun y H1 => ta σ H1 fun x H2 => rSetX K f y x H2 fun H3 => D.nx σ H3
theorem ap_sfld {K : PySem.W.Frag} {ta tv : TE} {f : Str} {D : Ends} {σ : St} {H : Hp} : sFldX K ta tv f D σ H = tv σ H fun y H1 => ta σ H1 fun x H2 => rSetX K f y x H2 fun H3 => D.nx σ H3 := propext Iff.rfl
section
variable {X : Cx} {K : PySem.W.Frag}
theorem pe_fldX {e : Expr} {ta : TE} {f : Str} {pos : Pos} (hK : X.K = K) (he : PE X e ta) (hb : attributeBase e f X.env (eval e X.env) = eval e X.env := by kernel_rfl) : PE X (.Attribute e f pos) (tFldX K ta f) := by
  subst hK
  intro pins s σ H Q I h
  refine pe_fld (ta := up ta) he.up hb pins s σ H Q I ⟨_, h, fun x H1 hx => ?_⟩
  cases x with
  | ref a => obtain ⟨C, dx, fs, v, h1, h2, h3, h4, h5⟩ := hx; exact ⟨a, C, dx, fs, v, rfl, h1, h2, h3, h4, h5⟩
  | _ => exact False.elim hx
theorem ps_fldX {o value : Expr} {ta tv : TE} {f : Str} {pos pos' : Pos} (hK : X.K = K) (ha : PE X o ta) (hv : PE X value tv) (hs : swapsWith value (some (.Attribute o f pos')) pos.line X.env = pure false := by kernel_rfl) :
    PS X (.Assign [.Attribute o f pos'] value pos) (sFldX K ta tv f) := by
  subst hK
  intro pins s σ H D I h
  refine ps_fld (ta := up ta) (tv := up tv) ha.up hv.up hs pins s σ H D I ⟨_, h, fun y H1 hy => ⟨_, hy, fun x H2 hx => ?_⟩⟩
  cases x with
  | ref a => obtain ⟨C, dx, fs, h1, h2, h3, h4, h5⟩ := hx; exact ⟨a, C, dx, fs, rfl, h1, h2, h3, h4, h5⟩
  | _ => exact False.elim hx
end
structure Mtd (P : Program) (w : World) (K : PySem.W.Frag) (mg : Str → Option Value) (base : Heap) (CX : CXT) (C : Addr) (m : Str) (k : Nat) (ps : List Str) (sp : Sp) : Prop where
  ex : ∃ (f : Addr) (fd : FuncData), FnOk P w K mg base CX k f fd ps sp ∧ Meth K C m f ∧ Binds K fd ps []
  cl : Cls K C
def rMethX (C : Addr) (m : Str) (x : V) (H : Hp) (Q : Hp → Prop) : Prop := match x with
  | .ref a => ∃ dx fs, H a = some (.ins C dx fs) ∧ fs.lookup m = none ∧ Q H
  | _ => False
def tMethX (C : Addr) (m : Str) (sp : Sp) (E : St → XK) (ta : TE) (t : TA) : TE := fun σ H Q => ta σ H fun x H1 => rMethX C m x H1 fun H1 => t σ H1 fun vs H2 => sp (x :: vs) H2 Q (E σ)
theorem ap_meth {C : Addr} {m : Str} {sp : Sp} {E : St → XK} {ta : TE} {t : TA} {σ : St} {H : Hp} {Q : VK} : tMethX C m sp E ta t σ H Q = ta σ H fun x H1 => rMethX C m x H1 fun H1 => t σ H1 fun vs H2 => sp (x :: vs) H2 Q (E σ) := propext Iff.rfl
section
variable {X : Cx} {CX : CXT} {E : St → XK}
theorem pe_methX {pl : Sem Bool} {C : Addr} {m : Str} {k : Nat} {ps : List Str} {sp : Sp} {o e : Expr} {es : List Expr} {ta : TE} {t : TA} {apos pos : Pos} (M : Mtd X.prog X.w X.K X.mg X.base CX C m k ps sp) (hx : Passes CX X E) (hr : Room k X.A) (he : PE X o ta) (ha : PA X (e :: es) t)
    (hs : noStars (e :: es) = true := by kernel_rfl)
    (ht : eval (.Call (.Attribute o m apos) (e :: es) [] pos) X.env = (do
      let ov ← eval o X.env
      standAt apos.atName
      let (f, first) ← holding [ov] (getMethod ov m pl)
      callWith pos f first (backTo pos (starEach (e :: es) X.env)) (backToKw pos (keywordEach [] X.env))) := by rfl) :
    PE X (.Call (.Attribute o m apos) (e :: es) [] pos) (tMethX C m sp E ta t) := by
  obtain ⟨f, fd, F, hm, hb⟩ := M.ex
  intro pins s σ H Q I h
  refine pe_meth (ta := up ta) (t := t) he.up M.cl hm F hr hb .nil hx ha (starEach_cons (noStars_tail hs).1) (backTo_any (noStars_tail hs).2) ht pins s σ H Q I ⟨_, h, fun x H1 q => ?_⟩
  cases x with
  | ref a =>
    obtain ⟨dx, fs, h1, h2, h3⟩ := q
    refine ⟨a, dx, fs, rfl, h1, h2, ?_⟩
    simp only [List.append_nil]
    exact h3
  | _ => exact False.elim q
theorem pe_methX0 {pl : Sem Bool} {C : Addr} {m : Str} {k : Nat} {ps : List Str} {sp : Sp} {o : Expr} {ta : TE} {apos pos : Pos} (M : Mtd X.prog X.w X.K X.mg X.base CX C m k ps sp) (hx : Passes CX X E) (hr : Room k X.A) (he : PE X o ta)
    (ht : eval (.Call (.Attribute o m apos) [] [] pos) X.env = (do
      let ov ← eval o X.env
      standAt apos.atName
      let (f, first) ← holding [ov] (getMethod ov m pl)
      callWith pos f first (backTo pos (starEach [] X.env)) (backToKw pos (keywordEach [] X.env))) := by rfl) :
    PE X (.Call (.Attribute o m apos) [] [] pos) (tMethX C m sp E ta tNil) := by
  obtain ⟨f, fd, F, hm, hb⟩ := M.ex
  intro pins s σ H Q I h
  refine pe_meth0 (ta := up ta) he.up M.cl hm F hr hb .nil hx ht pins s σ H Q I ⟨_, h, fun x H1 q => ?_⟩
  cases x with
  | ref a =>
    obtain ⟨dx, fs, h1, h2, h3⟩ := q
    exact ⟨a, dx, fs, rfl, h1, h2, h3⟩
  | _ => exact False.elim q
end
structure Mak (P : Program) (w : World) (K : PySem.W.Frag) (mg : Str → Option Value) (base : Heap) (CX : CXT) (C : Addr) (x : Str) (k : Nat) (ps : List Str) (sp : Sp) : Prop where
  ex : ∃ (f : Addr) (fd : FuncData), FnOk P w K mg base CX k f fd ps sp ∧ Mk K C f ∧ Binds K fd ps []
  mg : mg x = some (.ref C)
def tMakeX (C : Addr) (sp : Sp) (E : St → XK) (t : TA) : TE := fun σ H Q => t σ H fun vs H1 => ∀ x dx H2, H1 x = none → H1 dx = none → dx ≠ x → Same H1 H2 → H2 x = some (.ins C dx []) → H2 dx = some (.own x) → sp (.ref x :: vs) H2 (fun v H3 => v = .non ∧ Q (.ref x) H3) (E σ)
theorem ap_make {C : Addr} {sp : Sp} {E : St → XK} {t : TA} {σ : St} {H : Hp} {Q : VK} : tMakeX C sp E t σ H Q = t σ H fun vs H1 => ∀ x dx H2, H1 x = none → H1 dx = none → dx ≠ x → Same H1 H2 → H2 x = some (.ins C dx []) → H2 dx = some (.own x) → sp (.ref x :: vs) H2 (fun v H3 => v = .non ∧ Q (.ref x) H3) (E σ) := propext Iff.rfl
section
variable {X : Cx} {CX : CXT} {E : St → XK}
theorem pe_makeX {C : Addr} {x : Str} {k : Nat} {ps : List Str} {sp : Sp} {e : Expr} {es : List Expr} {t : TA} {p pos : Pos} (M : Mak X.prog X.w X.K X.mg X.base CX C x k ps sp) (hx : Passes CX X E) (hr : Room (k + 1) X.A) (ha : PA X (e :: es) t)
    (hg : X.env.kindOf x = some .globalImplicit := by kernel_rfl) (hd : (x == ("__debug__" : Str)) = false := by kernel_rfl) (hs : noStars (e :: es) = true := by kernel_rfl) :
    PE X (.Call (.Name x p) (e :: es) [] pos) (tMakeX C sp E t) := by
  obtain ⟨f, fd, F, hm, hb⟩ := M.ex
  intro pins s σ H Q I h
  refine pe_make (t := upA t) hm F hr hg M.mg hb .nil hx ha.up hd (starEach_cons (noStars_tail hs).1) (backTo_any (noStars_tail hs).2) pins s σ H Q I ⟨_, h, fun vs H1 q x dx h1 h2 h3 => ?_⟩
  simp only [List.append_nil]
  refine q x dx _ h1 h2 h3 ((same_upd h2).upd_new h1) upd_same ?_
  rw [upd_ne h3, upd_same]
end
end L2

namespace L2
open PySem PySem.Spec PyProof.Rows
theorem isList_sb {h g : Heap} {l c : Addr} {xs : Array Value} (x : h.IsList l xs) (s : Heap.SameBut c h g) (ne : l ≠ c) : g.IsList l xs := by
  obtain ⟨o, h1, h2⟩ := x
  exact ⟨o, (s.2 l ne).trans h1, h2⟩
section
variable {prog : Program} {w : World} {A : Around} {E : Value → Shared → Prop}
theorem draw_lst {c l : Addr} {xs : Array Value} (ne : l ≠ c) : ∀ (k j : Nat) (s : Shared) (R : List Value → Shared → Prop), s.heap.IsListIter c l j → s.heap.IsList l xs → j + k ≤ xs.size →
    (∀ g, g.IsListIter c l (j + k) → Heap.SameBut c s.heap g → R ((xs.toList.drop j).take k) { s with heap := g }) → wpAny (model prog w) A (draw (.ref c) k) R E s
  | 0, j, s, R, i0, _, _, q => wpAny_pure (by simpa using q s.heap i0 (Heap.SameBut.refl ..))
  | k + 1, j, s, R, i0, l0, hb, q => by
    have lt : j < xs.size := by omega
    show wpAny _ _ (pyNext (.ref c) >>= _) R E s
    refine wpAny_bind (wpAny_pyNext_list_item i0 l0 (x := xs[j]) (by simp [lt]) fun g1 i1 s1 => ?_)
    refine wpAny_bind (wpAny_holding (draw_lst ne k (j + 1) _ _ i1 (isList_sb l0 s1 ne) (by omega) fun g2 i2 s2 => wpAny_pure ?_))
    have z := q g2 (by rw [show j + (k + 1) = j + 1 + k by omega]; exact i2) (s1.trans s2)
    rw [show xs.toList.drop j = xs[j] :: xs.toList.drop (j + 1) by simp [List.drop_eq_getElem_cons, lt], List.take_succ_cons] at z
    exact z
theorem unpack_lst {s : Shared} {l : Addr} {xs : Array Value} {ts : List (Bool × (Value → Sem Unit))} {R : Unit → Shared → Prop} (hh : A.handled = none) (l0 : s.heap.IsList l xs) (hn : ts.length = xs.size) (hs : ts.findIdx? (·.1) = none)
    (q : ∀ g, Heap.ExtBut s.heap.objs.size s.heap g → wpAny (model prog w) A (assignInOrder (ts.map (·.2)) xs.toList) R E { s with heap := g }) : wpAny (model prog w) A (unpack (.ref l) ts) R E s := by
  have ne : l ≠ s.heap.objs.size := by obtain ⟨o, ho, _⟩ := l0; exact Nat.ne_of_lt (Heap.lt_size ho)
  unfold unpack
  rw [hn, hs]
  refine wpAny_bind (wpAny_holding ?_)
  unfold unpackItems
  refine wpAny_bind ?_
  unfold notIterableAtAll
  refine wpAny_bind (wpAny_specialOf l0.typeIs F.slot_list_iter.lookup ?_)
  refine wpAny_pure ?_
  simp only [Bool.false_eq_true, if_false]
  refine wpAny_bind (wpAny_holding (wpAny_pyIter_list l0 ?_))
  refine wpAny_bind (wpAny_holding (draw_lst ne xs.size 0 _ _ ⟨_, Heap.get?_push_size _ rfl, rfl, rfl⟩ (l0.push _) (by omega) fun g1 i1 s1 => ?_))
  rw [show List.take xs.size (List.drop 0 xs.toList) = xs.toList by rw [List.drop_zero]; exact List.take_of_length_le (by simp)]
  rw [if_neg (by simp)]
  refine wpAny_bind (wpAny_holding (wpAny_pyNext_list_end hh i1 (isList_sb (l0.push _) s1 ne) (by simp) fun g2 e2 => ?_))
  simp only [Option.isSome_none, Bool.false_eq_true, if_false]
  exact wpAny_pure (q g2 fun b o hb e => e2 b o hb (s1.extBut b o hb (Heap.get?_push_of_some _ e)))
end
def gUnp (K : PySem.W.Frag) (n : Nat) (t : TGs) : TG := fun v σ H Q => match v with
  | .ref a => ∃ xs, Sq K H a xs ∧ xs.length = n ∧ t xs σ H Q
  | _ => False
theorem pg_unp {X : Cx} {es : List Expr} {k : Nat} {t : TGs} {n : Nat} {pos : Pos} (hc : X.calm = true) (h : PGs X es t)
    (hn : (assignEach es X.env).length = n := by rfl) (hst : (assignEach es X.env).findIdx? (·.1) = none := by rfl) : PG X (.Tuple es k pos) (gUnp X.K n t) := by
  intro pins s σ H v u Q I r hw
  cases v with
  | ref a =>
    obtain ⟨xs, hq | hq, hl, hw⟩ := hw
    · cases r
      obtain ⟨its, rv, p, hz⟩ := I.list hq
      rw [assign_Tuple]
      refine wpAny_bind (wpAny_standAt (unpack_lst (I.ok.hd hc) p.isList (by simp [hn, ← hl, rv.length]) hst fun g hx => ?_))
      have I1 : Inv X pins σ H { s with heap := g } := I.kept (t' := s.toks) fun b o e => hx b o (Nat.ne_of_lt (Heap.lt_size e)) e
      exact h pins _ σ H xs _ Q I1 (by simpa using rv) hw
    · exact pg_tup (pos := pos) (k := k) hc h hn hst pins s σ H _ u Q I r ⟨a, xs, rfl, hq, hl, hw⟩
  | _ => exact False.elim hw
theorem pg_unpK {X : Cx} {K : PySem.W.Frag} {es : List Expr} {k : Nat} {t : TGs} {n : Nat} {pos : Pos} (hK : X.K = K) (hc : X.calm = true) (h : PGs X es t)
    (hn : (assignEach es X.env).length = n := by rfl) (hst : (assignEach es X.env).findIdx? (·.1) = none := by rfl) : PG X (.Tuple es k pos) (gUnp K n t) := hK ▸ pg_unp hc h hn hst
theorem ap_unp {K : PySem.W.Frag} {n : Nat} {t : TGs} {a : Addr} {σ : St} {H : Hp} {Q : St → Hp → Prop} : gUnp K n t (.ref a) σ H Q = ∃ xs, Sq K H a xs ∧ xs.length = n ∧ t xs σ H Q := propext Iff.rfl
theorem ap_gcons {t : TG} {u : TGs} {v : V} {r : List V} {σ : St} {H : Hp} {Q : St → Hp → Prop} : gCons t u (v :: r) σ H Q = t v σ H fun σ' H' => u r σ' H' Q := propext ⟨fun ⟨_, _, e, h⟩ => by cases e; exact h, fun h => ⟨v, r, rfl, h⟩⟩
theorem ap_gnil {σ : St} {H : Hp} {Q : St → Hp → Prop} : gNil [] σ H Q = Q σ H := propext ⟨fun h => h.2, fun h => ⟨rfl, h⟩⟩
def cutN (l : List Nat) (lo hi : Option Int) : List Nat := (l.drop (HT.sIx l.length 0 lo)).take (HT.sIx l.length l.length hi - HT.sIx l.length 0 lo)
theorem cutN_length (l : List Nat) (lo hi : Option Int) : (cutN l lo hi).length ≤ l.length := by
  unfold cutN
  rw [List.length_take, List.length_drop]
  omega
theorem pick_range {α : Type} (l : List α) (a k : Nat) : ((List.range k).map fun j => a + j).filterMap (l[·]?) = (l.drop a).take k := by
  induction k with
  | zero => simp
  | succ k ih =>
    rw [List.range_succ, List.map_append, List.filterMap_append, ih, List.take_succ]
    congr 1
    simp only [List.map_cons, List.map_nil, List.filterMap_cons, List.filterMap_nil, List.getElem?_drop]
    cases l[a + k]? <;> rfl
def partOf : Option Int → Tok → Option (Int × Tok)
  | some i, t => some (i, t)
  | none, _ => none
def clipV (n d : Nat) : Option Int → Int
  | none => d
  | some i => max 0 (min (if i < 0 then i + (n : Int) else i) (n : Int))
theorem sIx_clip (n d : Nat) (o : Option Int) : clipV n d o = ((HT.sIx n d o : Nat) : Int) := by
  cases o with
  | none => rfl
  | some v =>
    show max 0 (min (if v < 0 then v + (n : Int) else v) (n : Int)) = ((if v < 0 then (v + (n : Int)).toNat else min v.toNat n : Nat) : Int)
    by_cases h : v < 0
    · rw [if_pos h, if_pos h]; omega
    · rw [if_neg h, if_neg h]; omega
theorem indices_clip (lo hi : Option Int) (n : Nat) : Builtin.Str.strSliceIndices lo hi 1 n = sliceRange (clipV n 0 lo) (clipV n n hi) 1 := by
  unfold Builtin.Str.strSliceIndices clipV
  cases lo <;> cases hi <;> simp
theorem range_one (a b : Nat) : sliceRange (a : Int) (b : Int) 1 = (List.range (b - a)).map fun j => a + j := by
  unfold sliceRange
  have e3 : (if (1 : Int) > 0 then (if (a : Int) < (b : Int) then ((b : Int) - (a : Int) + 1 - 1) / 1 else 0) else (if (a : Int) > (b : Int) then ((a : Int) - (b : Int) - 1 - 1) / (-1) else 0)).toNat = b - a := by
    rw [if_pos (by decide)]
    split <;> omega
  show ((List.range (if (1 : Int) > 0 then (if (a : Int) < (b : Int) then ((b : Int) - (a : Int) + 1 - 1) / 1 else 0) else (if (a : Int) > (b : Int) then ((a : Int) - (b : Int) - 1 - 1) / (-1) else 0)).toNat).map fun (k : Nat) => ((a : Int) + 1 * (k : Int)).toNat) = _
  rw [e3]
  exact List.map_congr_left fun k _ => by omega
theorem picked_range (x : Str) (lo hi : Option Int) (t u : Tok) : slicePicked x (partOf lo t) (partOf hi u) none = (List.range (HT.sIx x.length x.length hi - HT.sIx x.length 0 lo)).map fun j => HT.sIx x.length 0 lo + j := by
  unfold slicePicked
  have e1 : (partOf lo t).map (·.1) = lo := by cases lo <;> rfl
  have e2 : (partOf hi u).map (·.1) = hi := by cases hi <;> rfl
  rw [e1, e2]
  show Builtin.Str.strSliceIndices lo hi 1 x.length = _
  rw [indices_clip, sIx_clip, sIx_clip, range_one]
theorem picked_cut (x : Str) (lo hi : Option Int) (t u : Tok) : (slicePicked x (partOf lo t) (partOf hi u) none).filterMap (x.cps[·]?) = cutN x.cps.toList lo hi := by
  have e5 : (fun i : Nat => x.cps[i]?) = fun i : Nat => x.cps.toList[i]? := by funext i; rw [Array.getElem?_toList]
  rw [picked_range, e5, pick_range]
  unfold cutN
  rw [← len_cps]
theorem sl_strX {X : Cx} : SlR X (fun x lo hi H Q => ∃ z, x = .str z ∧ z.length ≤ sizeLine ∧ Q (.str (tx (cutN z.cps.toList lo hi))) H) := by
  intro pins s σ H x v vl vu lo hi sl Q I rx hs pl pu h
  obtain ⟨z, rfl, hz, q⟩ := h
  obtain ⟨t, rfl⟩ := rx
  refine ⟨"str", _, F.slot_str_getitem.lookup, typeIs_str s z t, ?_⟩
  have h1 : ∃ tl, vl = partValue (partOf lo tl) := by cases pl with | none => exact ⟨0, rfl⟩ | int i t => exact ⟨t, rfl⟩
  have h2 : ∃ tu, vu = partValue (partOf hi tu) := by cases pu with | none => exact ⟨0, rfl⟩ | int i t => exact ⟨t, rfl⟩
  obtain ⟨tl, rfl⟩ := h1
  obtain ⟨tu, rfl⟩ := h2
  refine wpAny_getItem_str_slice (l := partOf lo tl) (u := partOf hi tu) (st := none) hs rfl ?_
  have ec := picked_cut z lo hi tl tu
  have key : tx (cutN z.cps.toList lo hi) = ⟨((slicePicked z (partOf lo tl) (partOf hi tu) none).filterMap (z.cps[·]?)).toArray⟩ := by rw [ec]; rfl
  unfold sliceMade
  split
  next hh =>
    have hl : (slicePicked z (partOf lo tl) (partOf hi tu) none).length = z.length := by simpa using hh
    rw [picked_range, List.length_map, List.length_range] at hl
    have b1 := HT.sIx_le z.length 0 (Nat.zero_le _) lo
    have b2 := HT.sIx_le z.length z.length (Nat.le_refl _) hi
    have e : tx (cutN z.cps.toList lo hi) = z := by
      unfold cutN
      rw [← len_cps, hl]
      by_cases hz0 : z.length = 0
      · have : z.cps.toList = [] := by rw [← List.length_eq_zero_iff, ← len_cps]; exact hz0
        rw [this]
        have := tx_of z
        rw [‹z.cps.toList = []›] at this
        simpa using this
      · rw [show HT.sIx z.length 0 lo = 0 by omega, List.drop_zero, List.take_of_length_le (by rw [← len_cps]; exact Nat.le_refl _)]
        exact tx_of z
    rw [e] at q
    exact ⟨.str z, H, I, ⟨t, rfl⟩, q⟩
  next =>
    rw [← key]
    refine ⟨?_, .str _, H, I.tok _, ⟨_, rfl⟩, q⟩
    rw [tx_len]
    have := cutN_length z.cps.toList lo hi
    rw [← len_cps] at this
    omega
def rSlY (K : PySem.W.Frag) : V → Option Int → Option Int → Hp → VK → Prop := fun x lo hi H Q => match x with
  | .ref a => ∃ xs, SqL K H a xs ∧ nw H (.lst (cutV xs lo hi)) Q
  | .str z => z.length ≤ sizeLine ∧ Q (.str (tx (cutN z.cps.toList lo hi))) H
  | _ => False
theorem sl_Y {X : Cx} : SlR X (rSlY X.K) := by
  intro pins s σ H x v vl vu lo hi sl Q I rx hs pl pu h
  cases x with
  | ref a =>
    obtain ⟨xs, h1, h2⟩ := h
    exact sl_list pins s σ H _ v vl vu lo hi sl Q I rx hs pl pu ⟨a, xs, rfl, h1, h2.go⟩
  | str z => exact sl_strX pins s σ H _ v vl vu lo hi sl Q I rx hs pl pu ⟨z, rfl, h.1, h.2⟩
  | _ => exact False.elim h
theorem sl_YK {X : Cx} {K : PySem.W.Frag} (hK : X.K = K) : SlR X (rSlY K) := hK ▸ sl_Y
theorem RoomN.mark {k : Nat} {A : Around} {e : Option Value} (r : RoomN k A) : RoomN k (A.mark e) := ⟨r.dp, r.un⟩
end L2

namespace L2
open PySem PySem.Spec PyProof.Rows
def memK (x : Key) (l : List Key) : Bool := l.any fun y => decide (y = x)
theorem memK_iff {x : Key} {l : List Key} : memK x l = true ↔ x ∈ l := by
  unfold memK
  rw [List.any_eq_true]
  exact ⟨fun ⟨y, h, e⟩ => of_decide_eq_true e ▸ h, fun h => ⟨x, h, decide_eq_true rfl⟩⟩
theorem memK_snoc (x y : Key) (l : List Key) : memK x (l ++ [y]) = (memK x l || decide (y = x)) := by
  unfold memK
  rw [List.any_append]; simp
def metK (val : Nat → Key) : Nat → List Key
  | 0 => []
  | i + 1 => if memK (val i) (metK val i) = true then metK val i else metK val i ++ [val i]
theorem metK_len (val : Nat → Key) : ∀ i, (metK val i).length ≤ i
  | 0 => Nat.le_refl _
  | i + 1 => by
    have ih := metK_len val i
    unfold metK
    split
    · omega
    · rw [List.length_append, List.length_singleton]; omega
theorem setOf_eq {P : Program} {w : World} {h : Heap} {a : Addr} {S S' : Key → Bool} {n n' : Nat} (x : h.SetOf (mixKind P w) a S n) (e : ∀ k, S k = S' k) (en : n = n') : h.SetOf (mixKind P w) a S' n' := by
  have z : S = S' := funext e
  subst z; subst en; exact x
section
variable {prog : Program} {w : World} {A : Around} {R : Result → Shared → Prop} {c : Addr} {fp wr : List Addr} {G : Array GenState → Array GenState → Prop} {n : Nat} {Pv : Nat → Value → Prop} {Sv : Nat → Shared → Prop}
theorem upd_loop (W : WalksS prog w A.in1 c fp wr G n Pv Sv) (a : Addr) (na : a ∉ fp) (val : Nat → Key) (hv : ∀ i v, Pv i v → keyIs (val i) v = true ∧ v.scannable = true) (hb : n + 1 < scanBound) :
    ∀ (k i : Nat) (s : Shared), n - i = k → i ≤ n → Sv i s → s.heap.SetOf (mixKind prog w) a (fun x => memK x (metK val i)) (metK val i).length →
      (∀ s', Moved (a :: wr) G s s' → s'.heap.SetOf (mixKind prog w) a (fun x => memK x (metK val n)) (metK val n).length → R (.ok (.ret .none)) s') →
      codeAny (model prog w) A (.builtin "set.update.loop" ⟨[.ref a, .ref c], []⟩) R s := by
  have nw' : a ∉ wr := fun z => na (W.sub _ z)
  have sb : ∀ b ∈ wr, b ∈ a :: wr := fun b h => List.mem_cons_of_mem _ h
  have stay : ∀ {s s' : Shared} {S : Key → Bool} {m : Nat}, Moved wr G s s' → s.heap.SetOf (mixKind prog w) a S m → s'.heap.SetOf (mixKind prog w) a S m := fun mv x => by
    obtain ⟨o, es, ep, t, ho, r⟩ := x
    exact ⟨o, es, ep, t, mv.heap a _ nw' ho, r⟩
  intro k
  induction k with
  | zero =>
    intro i s hk hi st x q
    have e : i = n := by omega
    subst e
    refine codeAny_builtin PyProof.Rows.F.entry_set_update_loop ?_
    rw [Around.under_plainId PyProof.Rows.F.plain_set_update_loop _]
    show wpAny _ A.in1 (pyNext (.ref c) >>= _) _ _ s
    refine wpAny_bind (W.done s _ _ st fun s' mv => ?_)
    exact wpAny_pure (q s' (mv.mono sb) (stay mv x))
  | succ k ih =>
    intro i s hk hi st x q
    have lt : i < n := by omega
    refine codeAny_builtin PyProof.Rows.F.entry_set_update_loop ?_
    rw [Around.under_plainId PyProof.Rows.F.plain_set_update_loop _]
    show wpAny _ A.in1 (pyNext (.ref c) >>= _) _ _ s
    refine wpAny_bind (W.item i s _ _ lt st fun v s' pv st' mv => ?_)
    obtain ⟨hk1, hk2⟩ := hv i v pv
    have x' := stay mv x
    show wpAny _ A.in1 (holding [v] (setAdd a v) >>= _) _ _ s'
    refine wpAny_bind (wpAny_holding ?_)
    unfold setAdd
    refine wpAny_holding ?_
    refine wpAny_bind ((mixKind prog w).pyHash (k := val i) hk1 ?_)
    have room : (metK val i).length + 1 < scanBound := by have := metK_len val i; omega
    refine wpAny_setAddHashed_of (knd := mixKind prog w) (s := { s' with toks := s'.toks + 1 }) hk1 hk2 x' room fun g sg xg => ?_
    have x2 : g.SetOf (mixKind prog w) a (fun y => memK y (metK val (i + 1))) (metK val (i + 1)).length := by
      refine setOf_eq xg (fun y => ?_) ?_
      · show (memK y (metK val i) || decide (y = val i)) = memK y (if memK (val i) (metK val i) = true then metK val i else metK val i ++ [val i])
        by_cases hc : memK (val i) (metK val i) = true
        · rw [if_pos hc]
          by_cases e : y = val i
          · subst e; rw [hc, Bool.true_or]
          · rw [decide_eq_false e, Bool.or_false]
        · rw [if_neg hc, memK_snoc]
          congr 1
          by_cases e : y = val i
          · rw [decide_eq_true e, decide_eq_true e.symm]
          · rw [decide_eq_false e, decide_eq_false (Ne.symm e)]
      · show (if memK (val i) (metK val i) = true then (metK val i).length else (metK val i).length + 1) = (if memK (val i) (metK val i) = true then metK val i else metK val i ++ [val i]).length
        by_cases hc : memK (val i) (metK val i) = true
        · rw [if_pos hc, if_pos hc]
        · rw [if_neg hc, if_neg hc, List.length_append]; rfl
    refine wpAny_pure ⟨plainId_quiet PyProof.Rows.F.plain_set_update_loop _, ih (i + 1) _ (by omega) lt (W.frame _ s' _ _ st' (Nat.le_succ _) fun b hb o e => ?_) x2 fun s'' mv2 x3 => ?_⟩
    · rw [sg.2 b (fun z : b = a => na (by rw [← z]; exact hb))]; exact e
    · refine q s'' (Moved.trans W.gtrans ((mv.mono sb).then_heap (Nat.le_succ _) fun b o hb e => ?_) mv2) x3
      rw [sg.2 b (fun z : b = a => hb (by rw [z]; exact List.mem_cons_self))]; exact e
end
def valT (z : Str) (i : Nat) : Key := Sum.inr ⟨#[z.cps.toList.getD i 0]⟩
theorem sub_str_set : isSubtype (.type "str") (.type "set") = pure false := by rw [isSubtype_type]; kernel_rfl
theorem sub_str_frozen : isSubtype (.type "str") (.type "frozenset") = pure false := by rw [isSubtype_type]; kernel_rfl
set_option maxRecDepth 100000 in
set_option maxHeartbeats 4000000 in
theorem set_of_text {prog : Program} {w : World} {A : Around} {E : Value → Shared → Prop} {s : Shared} {z : Str} {t : Tok} {Q : Value → Shared → Prop} (hh : A.handled = none) (hb : z.cps.size + 1 < scanBound)
    (q : ∀ (g : Heap) (tk : Nat), g.SetOf (mixKind prog w) s.heap.objs.size (fun x => memK x (metK (valT z) z.cps.size)) (metK (valT z) z.cps.size).length → (∀ b o, b < s.heap.objs.size → s.heap.get? b = some o → g.get? b = some o) →
      Q (.ref s.heap.objs.size) { s with heap := g, toks := tk }) : wpAny (model prog w) A (call (.type "set") [.str z t]) Q E s := by
  obtain ⟨c, tl, hmro⟩ := F.called_set.mro
  have hmade := F.called_set.made
  have hsub := F.called_set.sub
  refine wpAny_call (codeAny_of_tree ?_)
  show wpAny _ _ (callAny (.type "set") _) _ _ _
  refine wpAny_pure ⟨Code.quiet_builtin _ (by decide +kernel), codeAny_builtin F.entry_type_call ?_⟩
  rw [Around.under_plain (weight_type_call_type "set" [.str z t] []) rfl]
  have h1 := F.called_set.notType
  have h2 := F.called_set.canCreate
  have hct := F.typeCall_set_1 (.str z t)
  repeat (any_goals (first | assumption | wp_step))
  refine codeAny_mono (code_set_new_1 (.str z t) (E := E) (Q₁ := fun ob s1 => ∃ led : Bool, ob = .ref s.heap.objs.size ∧ s1 = { s with heap := s.heap.push { cls := .type "set", dict := none, data := .set #[] 0 (.fresh 0 0 led) } }) fun led => ⟨led, rfl, rfl⟩) fun r s1 hr => ?_
  cases r with
  | error e => exact hr
  | ok fl =>
    cases fl with
    | ret ob =>
      obtain ⟨led, rfl, rfl⟩ := hr
      generalize hg1 : s.heap.push { cls := .type "set", dict := none, data := .set #[] 0 (.fresh 0 0 led) } = g1
      have hS : g1.get? s.heap.objs.size = some { cls := .type "set", dict := none, data := .set #[] 0 (.fresh 0 0 led) } := by rw [← hg1]; exact Heap.get?_push_size _ rfl
      have hsz : g1.objs.size = s.heap.objs.size + 1 := by rw [← hg1, Heap.size_push]
      have hkp : ∀ b o, s.heap.get? b = some o → g1.get? b = some o := fun b o e => by rw [← hg1]; exact Heap.get?_push_of_some _ e
      have hT : Shared.TypeIs { s with heap := g1 } (.ref s.heap.objs.size) "set" := ⟨_, hS, rfl⟩
      have hli := F.called_set.init.lookup
      have hbi := F.called_set.init.bind (.ref s.heap.objs.size)
      repeat (any_goals (first | assumption | wp_step))
      refine codeAny_mono (codeAny_call_builtin (R := wants (fun r s2 => r = .none ∧ ∃ g tk, s2 = { s with heap := g, toks := tk } ∧ g.SetOf (mixKind prog w) s.heap.objs.size (fun x => memK x (metK (valT z) z.cps.size)) (metK (valT z) z.cps.size).length ∧
          (∀ b o, b < s.heap.objs.size → s.heap.get? b = some o → g.get? b = some o)) E) F.called_set.init.plain F.entry_set_init (check_set_init_1 hT ?_)) fun r2 s2 hr2 => ?_
      · have k1 := sub_str_set
        have k2 := sub_str_frozen
        have k3 : (Value.type "str" == Value.type "dict") = false := by decide
        have hh3 : A.in1.in1.in1.handled = none := by simp [hh]
        have hval : ∀ i v, SignAt z i v → keyIs (valT z i) v = true ∧ v.scannable = true := by
          rintro i v ⟨ch, u, e, rfl⟩
          refine ⟨?_, rfl⟩
          have e2 : z.cps.toList.getD i 0 = ch := by rw [List.getD_eq_getElem?_getD, Array.getElem?_toList, e]; rfl
          unfold valT
          rw [e2]
          exact keyIs_str _ _
        have fin : ∀ (g2 : Heap), (∀ b o, g1.get? b = some o → g2.get? b = some o) → ∀ s', Moved (s.heap.objs.size :: [g1.objs.size]) (fun a b => b = a) { s with heap := g2 } s' →
            s'.heap.SetOf (mixKind prog w) s.heap.objs.size (fun x => memK x (metK (valT z) z.cps.size)) (metK (valT z) z.cps.size).length →
            ∃ g tk, s' = { s with heap := g, toks := tk } ∧ g.SetOf (mixKind prog w) s.heap.objs.size (fun x => memK x (metK (valT z) z.cps.size)) (metK (valT z) z.cps.size).length ∧ (∀ b o, b < s.heap.objs.size → s.heap.get? b = some o → g.get? b = some o) := by
          intro g2 k4 s' mv x
          obtain ⟨g, ge, d, tk, os⟩ := s'
          have eg : ge = s.gens := mv.gens
          have ed : d = s.drawn := mv.drawn
          have eo : os = s.os := mv.os
          subst eg; subst ed; subst eo
          refine ⟨g, tk, rfl, x, fun b o hb e => mv.heap b o ?_ (k4 b o (hkp b o e))⟩
          simp only [List.mem_cons, List.not_mem_nil, or_false, not_or]
          rw [hsz]
          exact ⟨Nat.ne_of_lt hb, Nat.ne_of_lt (Nat.lt_succ_of_lt hb)⟩
        have start : ∀ g2 : Heap, (∀ b o, g1.get? b = some o → g2.get? b = some o) → g2.SetOf (mixKind prog w) s.heap.objs.size (fun x => memK x (metK (valT z) 0)) (metK (valT z) 0).length := fun g2 k4 =>
          letI : BEq Key := instBEqOfDecidableEq
          setOf_eq ((PyProof.Rows.setObjOf_fresh (knd := mixKind prog w) led).setOf (k4 _ _ hS) (by unfold scanBound; omega)) (fun _ => rfl) rfl
        have na : s.heap.objs.size ∉ [g1.objs.size] := by simp only [List.mem_cons, List.not_mem_nil, or_false]; omega
        unfold Builtin.«set.__init__» noKeywords Builtin.Frozenset.updateFrom
        generalize hPI : pyIter = PI
        wp_walk
        subst hPI
        cases ha : z.cps.all (· < 128) with
        | true =>
          refine wpAny_pyIter_ascii ha ?_
          refine wpAny_bind (wpAny_runValue ?_)
          refine upd_loop ((Walks.strAscii hh3 g1.objs.size z t).toS) s.heap.objs.size na (valT z) hval hb (z.cps.size - 0) 0 _ (by omega) (Nat.zero_le _) ⟨_, Heap.get?_push_size _ rfl, rfl, rfl⟩ (start _ fun b o e => Heap.get?_push_of_some _ e) fun s' mv x => ?_
          obtain ⟨g, tk, e, r1, r2⟩ := fin _ (fun b o e => Heap.get?_push_of_some _ e) s' mv x
          refine wpAny_pure ?_
          show wpAny _ _ (ret Value.none) _ _ _
          exact wpAny_pure ⟨rfl, g, tk, e, r1, r2⟩
        | false =>
          refine wpAny_pyIter_wide ha ?_
          refine wpAny_bind (wpAny_runValue ?_)
          refine upd_loop ((Walks.strWide hh3 g1.objs.size z t).toS) s.heap.objs.size na (valT z) hval hb (z.cps.size - 0) 0 _ (by omega) (Nat.zero_le _) ⟨_, Heap.get?_push_size _ rfl, rfl, rfl⟩ (start _ fun b o e => Heap.get?_push_of_some _ e) fun s' mv x => ?_
          obtain ⟨g, tk, e, r1, r2⟩ := fin _ (fun b o e => Heap.get?_push_of_some _ e) s' mv x
          refine wpAny_pure ?_
          show wpAny _ _ (ret Value.none) _ _ _
          exact wpAny_pure ⟨rfl, g, tk, e, r1, r2⟩
      · cases r2 with
        | error e => exact hr2
        | ok fl2 =>
          cases fl2 with
          | ret v =>
            obtain ⟨rfl, g, tk, rfl, x1, x2⟩ := hr2
            repeat (any_goals (first | assumption | wp_step))
            exact q _ _ x1 x2
          | _ => exact hr2.elim
    | _ => exact hr.elim
end L2

namespace L2
open PySem PySem.Spec PyProof.Rows
def setT (P : Program) (w : World) (a : Addr) (l : List Key) : HO := .ext fun h => h.SetOf (mixKind P w) a (fun x => memK x l) l.length
theorem setT_ok {P : Program} {w : World} {H : Hp} {h : Heap} {a : Addr} {l : List Key} (x : h.SetOf (mixKind P w) a (fun x => memK x l) l.length) : ObjOk P w H h a (setT P w a l) := by
  refine ⟨x, ?_, fun h1 h2 y k => ?_⟩
  · obtain ⟨o, _, _, _, e, _⟩ := x; exact ⟨o, e⟩
  · obtain ⟨o, es, ep, t, e, r⟩ := y; exact ⟨o, es, ep, t, k o e, r⟩
def rSetS (P : Program) (w : World) : List V → Hp → VK → Prop := fun vs H Q => match vs with
  | [.str z] => z.length ≤ 4000 ∧ ∀ p H', H p = none → Same H H' → H' p = some (setT P w p (metK (valT z) z.length)) → Q (.ref p) H'
  | _ => False
theorem call_setS {X : Cx} (hc : X.calm = true) : CallR X (.type "set") (rSetS X.prog X.w) := by
  intro pins s σ H xs us Q I r h
  match xs, h with
  | [.str z], h =>
    obtain ⟨u, rfl, t, rfl⟩ := vals1 r
    have hf : H s.heap.objs.size = none := I.hok.fresh (Nat.le_refl _)
    have hz : z.cps.size ≤ 4000 := h.1
    refine set_of_text (I.ok.hd hc) (by unfold scanBound; omega) fun g tk x k => ?_
    have kk : ∀ b o, s.heap.get? b = some o → g.get? b = some o := fun b o e => k b o (Heap.lt_size e) e
    exact ⟨.ref s.heap.objs.size, upd H s.heap.objs.size (setT X.prog X.w s.heap.objs.size (metK (valT z) z.length)), I.laid (t' := tk) kk (Nat.le_refl _) (setT_ok x), rfl, h.2 _ _ hf (same_upd hf) upd_same⟩
def rLenT (P : Program) (w : World) : List V → Hp → VK → Prop := fun vs H Q => match vs with
  | [.ref p] => ∃ l, H p = some (setT P w p l) ∧ Q (.int l.length) H
  | _ => False
theorem call_lenT {X : Cx} : CallR X (.builtin "len") (rLenT X.prog X.w) := by
  intro pins s σ H xs us Q I r h
  match xs, h with
  | [.ref p], h =>
    obtain ⟨l, e, q⟩ := h
    obtain ⟨u, rfl, ru⟩ := vals1 r
    cases ru
    obtain ⟨⟨o, es, ep, t, e1, e2, e3, _, _, e4, e5, e6⟩, _⟩ := (show ObjOk X.prog X.w H s.heap p (setT X.prog X.w p l) from I.hok p _ e)
    refine call_len_set e1 e2 e3 e5 (by have : es.size < 4096 := e4; omega) ⟨.int es.size, H, I.tok _, ⟨_, rfl⟩, ?_⟩
    rw [e6]; exact q
theorem call_setK {X : Cx} {P : Program} {w : World} (hP : X.prog = P) (hw : X.w = w) (hc : X.calm = true) : CallR X (.type "set") (rSetS P w) := by subst hP hw; exact call_setS hc
theorem call_lenTK {X : Cx} {P : Program} {w : World} (hP : X.prog = P) (hw : X.w = w) : CallR X (.builtin "len") (rLenT P w) := by subst hP hw; exact call_lenT
theorem metK_mem (val : Nat → Key) : ∀ (n : Nat) (x : Key), x ∈ metK val n ↔ ∃ i, i < n ∧ val i = x
  | 0, x => ⟨fun h => (by cases h), fun ⟨i, h, _⟩ => absurd h (Nat.not_lt_zero _)⟩
  | n + 1, x => by
    have ih := metK_mem val n
    unfold metK
    by_cases hc : memK (val n) (metK val n) = true
    · rw [if_pos hc, ih x]
      obtain ⟨j, hj, ej⟩ := (ih (val n)).mp (memK_iff.mp hc)
      constructor
      · rintro ⟨i, h, e⟩; exact ⟨i, Nat.lt_succ_of_lt h, e⟩
      · rintro ⟨i, h, e⟩
        rcases Nat.lt_succ_iff_lt_or_eq.mp h with h | h
        · exact ⟨i, h, e⟩
        · exact ⟨j, hj, by rw [ej, ← h, e]⟩
    · rw [if_neg hc, List.mem_append, List.mem_singleton, ih x]
      constructor
      · rintro (⟨i, h, e⟩ | e)
        · exact ⟨i, Nat.lt_succ_of_lt h, e⟩
        · exact ⟨n, Nat.lt_succ_self _, e.symm⟩
      · rintro ⟨i, h, e⟩
        rcases Nat.lt_succ_iff_lt_or_eq.mp h with h | h
        · exact .inl ⟨i, h, e⟩
        · exact .inr (by rw [← e, h])
theorem metK_full (val : Nat → Key) : ∀ n, (metK val n).length = n ↔ ∀ i j, i < n → j < n → val i = val j → i = j
  | 0 => ⟨fun _ i _ h => absurd h (Nat.not_lt_zero _), fun _ => rfl⟩
  | n + 1 => by
    have ih := metK_full val n
    have hl := metK_len val n
    unfold metK
    by_cases hc : memK (val n) (metK val n) = true
    · rw [if_pos hc]
      obtain ⟨j, hj, ej⟩ := (metK_mem val n (val n)).mp (memK_iff.mp hc)
      constructor
      · intro h; omega
      · intro h
        have := h j n (Nat.lt_succ_of_lt hj) (Nat.lt_succ_self _) ej
        omega
    · rw [if_neg hc, List.length_append, List.length_singleton]
      have nm : ∀ i, i < n → val i ≠ val n := fun i hi e => hc (memK_iff.mpr ((metK_mem val n (val n)).mpr ⟨i, hi, e⟩))
      constructor
      · intro h i j hi hj e
        have h2 := ih.mp (by omega)
        rcases Nat.lt_succ_iff_lt_or_eq.mp hi with hi | hi <;> rcases Nat.lt_succ_iff_lt_or_eq.mp hj with hj | hj
        · exact h2 i j hi hj e
        · subst hj; exact absurd e (nm i hi)
        · subst hi; exact absurd e.symm (nm j hj)
        · omega
      · intro h
        have := ih.mpr fun i j hi hj => h i j (Nat.lt_succ_of_lt hi) (Nat.lt_succ_of_lt hj)
        omega
theorem met_nodup (z : Str) : (metK (valT z) z.length).length = z.length ↔ z.cps.toList.Nodup := by
  rw [metK_full, List.nodup_iff_pairwise_ne, List.pairwise_iff_getElem]
  have hl := len_cps z
  constructor
  · intro h i j hi hj hij e
    have := h i j (by omega) (by omega) (by unfold valT; rw [List.getD_eq_getElem?_getD, List.getD_eq_getElem?_getD, List.getElem?_eq_getElem hi, List.getElem?_eq_getElem hj, e])
    omega
  · intro h i j hi hj e
    have hi' : i < z.cps.toList.length := by omega
    have hj' : j < z.cps.toList.length := by omega
    have e2 : z.cps.toList[i] = z.cps.toList[j] := by
      unfold valT at e
      rw [List.getD_eq_getElem?_getD, List.getD_eq_getElem?_getD, List.getElem?_eq_getElem hi', List.getElem?_eq_getElem hj'] at e
      have e4 := congrArg Str.cps (Sum.inr.inj e)
      simpa using e4
    rcases Nat.lt_trichotomy i j with z1 | z1 | z1
    · exact absurd e2 (h i j hi' hj' z1)
    · exact z1
    · exact absurd e2.symm (h j i hj' hi' z1)
theorem bt_ValueError : bootBuiltins "ValueError" = some (.type "ValueError") := by kernel_rfl
def ndB : List Addr → Bool
  | [] => true
  | a :: r => !r.contains a && ndB r
theorem nd_at : ∀ {l : List Addr} (_ : ndB l = true) {i j : Nat} {a b : Addr}, l[i]? = some a → l[j]? = some b → (a == b) = decide (i = j)
  | [], _, _, _, _, _, h, _ => by simp at h
  | x :: l, hn, 0, 0, a, b, ha, hb => by
    simp at ha hb
    subst ha hb
    simp
  | x :: l, hn, 0, j + 1, a, b, ha, hb => by
    unfold ndB at hn
    rw [Bool.and_eq_true, Bool.not_eq_true'] at hn
    simp at ha hb
    subst ha
    have hm : b ∈ l := List.mem_of_getElem? hb
    have : x ≠ b := fun e => by rw [e, List.contains_iff_mem.mpr hm] at hn; cases hn.1
    simp [this]
  | x :: l, hn, i + 1, 0, a, b, ha, hb => by
    unfold ndB at hn
    rw [Bool.and_eq_true, Bool.not_eq_true'] at hn
    simp at ha hb
    subst hb
    have hm : a ∈ l := List.mem_of_getElem? ha
    have : a ≠ x := fun e => by rw [← e, List.contains_iff_mem.mpr hm] at hn; cases hn.1
    simp [this]
  | x :: l, hn, i + 1, j + 1, a, b, ha, hb => by
    unfold ndB at hn
    rw [Bool.and_eq_true] at hn
    rw [nd_at hn.2 (i := i) (j := j) (by simpa using ha) (by simpa using hb)]
    exact decide_eq_decide.mpr (by omega)
theorem tag_same {H H' : Hp} (s : Same H H') {x : V} {t : Tg} (h : tagV H x = some t) : tagV H' x = some t := by
  cases x with
  | ref a =>
    have h' : tagO (H a) = some t := h
    cases e : H a with
    | none => rw [e] at h'; cases h'
    | some o =>
      show tagO (H' a) = some t
      rw [s a o e, ← e]; exact h'
  | _ => exact h
end L2

namespace L2
open PySem PySem.Spec PyProof.Rows
theorem at_drop {items : Array Value} {k : Nat} : items[((k : Nat) : Int).toNat]? = (items.toList.drop k)[0]? := by
  rw [List.getElem?_drop, Int.toNat_natCast, Nat.add_zero, Array.getElem?_toList]
theorem drop_tl {items : Array Value} {k : Nat} {v : Value} {r : List Value} (h : items.toList.drop k = v :: r) : items.toList.drop (k + 1) = r := by
  rw [← List.drop_drop, h]; rfl
def lexGe : List Int → List Int → Bool
  | [], [] => true
  | [], _ :: _ => false
  | _ :: _, [] => true
  | a :: x, c :: y => if a = c then lexGe x y else decide (c ≤ a)
theorem ge_loop (l b : Addr) (items items2 : Array Value) (n n2 : Nat) (dd dd2 : Option Addr) (sl sl2 : Array (Option Value)) {prog : Program} {w : World} {A : Around} {R : Result → Shared → Prop} {s : Shared}
    (hl : s.heap.get? l = some { cls := .type "list", dict := dd, data := .seq items n, slots := sl }) (hb : s.heap.get? b = some { cls := .type "list", dict := dd2, data := .seq items2 n2, slots := sl2 }) :
    ∀ (xs : List Value) (k : Nat) (ns ms : List Int), items.toList.drop k = xs → IntsAre xs ns → IntsAre (items2.toList.drop k) ms → k ≤ items.size → k ≤ items2.size → R (.ok (.ret (.bool (lexGe ns ms)))) s →
      codeAny (model prog w) A (Code.builtin "list.__eq__.loop" { pos := [.ref l, .ref b, rawInt (k : Int), rawInt 5] }) R s := by
  obtain ⟨hp, g, d, tk, os⟩ := s
  simp only at hl hb
  intro xs
  induction xs with
  | nil =>
    intro k ns ms hx hi hj hk hk2 h
    refine codeAny_builtin MeetsSeq3.entry_eq_loop ?_
    show wpAny _ _ (Builtin.«list.__eq__.loop» { pos := [.ref l, .ref b, Value.int (k : Int) 0, Value.int 5 0] }) _ _ _
    unfold Builtin.«list.__eq__.loop»
    have e1 : items[((k : Nat) : Int).toNat]? = none := by rw [at_drop, hx]; rfl
    have hz : items.size = k := by have := congrArg List.length hx; rw [List.length_drop, Array.length_toList, List.length_nil] at this; omega
    have hz2 : items2.size - k = ms.length := by have := hj.length; rw [List.length_drop, Array.length_toList] at this; exact this
    wp_walk using AutoSeq1.wpAny_loadPart' hl, AutoSeq1.wpAny_loadPart' hb
    rw [e1]
    wp_walk using AutoSeq1.wpAny_loadPart' hl, AutoSeq1.wpAny_loadPart' hb
    cases hi
    have e2 : lexGe [] ms = decide (items.size ≥ items2.size) := by
      cases ms with
      | nil => exact (decide_eq_true (by simp only [List.length_nil] at hz2; omega)).symm
      | cons c y => exact (decide_eq_false (by simp only [List.length_cons] at hz2; omega)).symm
    rw [e2] at h
    exact h
  | cons v xs ih =>
    intro k ns ms hx hi hj hk hk2 h
    refine codeAny_builtin MeetsSeq3.entry_eq_loop ?_
    show wpAny _ _ (Builtin.«list.__eq__.loop» { pos := [.ref l, .ref b, Value.int (k : Int) 0, Value.int 5 0] }) _ _ _
    unfold Builtin.«list.__eq__.loop»
    have e1 : items[((k : Nat) : Int).toNat]? = some v := by rw [at_drop, hx]; rfl
    have hz : items.size = k + (xs.length + 1) := by have := congrArg List.length hx; rw [List.length_drop, Array.length_toList, List.length_cons] at this; omega
    wp_walk using AutoSeq1.wpAny_loadPart' hl, AutoSeq1.wpAny_loadPart' hb
    rw [e1]
    cases hi with
    | cons a t hi' =>
    generalize hy : items2.toList.drop k = ys at hj
    cases hj with
    | nil =>
      have e2 : items2[((k : Nat) : Int).toNat]? = none := by rw [at_drop, hy]; rfl
      have hz2 : items2.size = k := by have := congrArg List.length hy; rw [List.length_drop, Array.length_toList, List.length_nil] at this; omega
      rw [e2]
      wp_walk using AutoSeq1.wpAny_loadPart' hl, AutoSeq1.wpAny_loadPart' hb
      have e3 : ∀ z, lexGe (a :: z) [] = decide (items.size ≥ items2.size) := fun z => (decide_eq_true (by omega)).symm
      rw [e3] at h
      exact h
    | cons c u hj' =>
      have e2 : items2[((k : Nat) : Int).toNat]? = some (.int c u) := by rw [at_drop, hy]; rfl
      have hz2 : k + 1 ≤ items2.size := by have := congrArg List.length hy; rw [List.length_drop, Array.length_toList, List.length_cons] at this; omega
      rw [e2]
      obtain ⟨e, he, hiff⟩ := HT.eqAt_int (A.under (Code.builtin "list.__eq__.loop" { pos := [.ref l, .ref b, rawInt (k : Int), rawInt 5] })) ⟨hp, g, d, tk, os⟩ a t c u
      refine wpAny_bind (he prog w _ _ ?_)
      unfold lexGe at h
      cases e with
      | true =>
        rw [if_pos (hiff.mp rfl)] at h
        wp_walk
        exact ⟨by with_unfolding_all rfl, ih (k + 1) _ _ (drop_tl hx) hi' (by rw [drop_tl hy]; exact hj') (by omega) (by omega) h⟩
      | false =>
        rw [if_neg (fun q => absurd (hiff.mpr q) Bool.false_ne_true)] at h
        wp_walk using AutoSeq1.wpAny_loadPart' hl, AutoSeq1.wpAny_loadPart' hb
        rw [e1, e2]
        have hri : ∀ (A : Around) (E : Value → Shared → Prop) (Q : Value → Shared → Prop), Q (.bool (decide (c ≤ a))) ⟨hp, g, d, tk, os⟩ → wpAny (model prog w) A (richCompare .GtE (.int a t) (.int c u)) Q E ⟨hp, g, d, tk, os⟩ := fun A E Q h => (PyProof.Rows.ge_int h : wpAny (model prog w) A (compareOp .GtE (.int a t) (.int c u)) Q E _)
        refine wpAny_bind (hri _ _ _ ?_)
        wp_walk
        exact h
theorem ge_lists {l b : Addr} {items items2 : Array Value} {ns ms : List Int} {prog : Program} {w : World} {A : Around} {E : Value → Shared → Prop} {s : Shared} {Q : Value → Shared → Prop} (hl : s.heap.IsList l items) (hb : s.heap.IsList b items2) (hi : IntsAre items.toList ns) (hj : IntsAre items2.toList ms)
    (hu : A.units < cLine) (h : Q (.bool (lexGe ns ms)) s) : wpAny (model prog w) A (compareOp .GtE (.ref l) (.ref b)) Q E s := by
  obtain ⟨⟨c1, dd, d1, sl⟩, ho, g1, n, g2⟩ := id hl
  obtain ⟨⟨c2, dd2, d2, sl2⟩, ho2, g3, n2, g4⟩ := id hb
  simp only at g1 g2 g3 g4
  subst g1 g2 g3 g4
  have m : Meets (Builtin.«list.__ge__» ⟨[.ref l, .ref b], []⟩) (fun _ R s => s.heap.get? l = some { cls := .type "list", dict := dd, data := .seq items n, slots := sl } ∧ s.heap.get? b = some { cls := .type "list", dict := dd2, data := .seq items2 n2, slots := sl2 } ∧
        R (.ok (.ret (.bool (lexGe ns ms)))) s) := by
    intro prog w A R s h
    obtain ⟨hp, g, d, tk, os⟩ := s; obtain ⟨hl, hb, h⟩ := h
    simp only at hl hb
    have f2 := AutoSeq1.sub_list_list
    unfold Builtin.«list.__ge__»
    wp_walk using AutoSeq1.wpAny_loadPart' hl, AutoSeq1.wpAny_loadPart' hb
    exact ⟨by with_unfolding_all rfl, ge_loop l b items items2 n n2 dd dd2 sl sl2 hl hb _ 0 ns ms rfl hi hj (Nat.zero_le _) (Nat.zero_le _) h⟩
  exact PySem.W.cmp_ofGtE (richCompare_meets_room (op := .GtE) ⟨_, ho, rfl⟩ ⟨_, ho2, rfl⟩ PySem.F.slot_list_ge PySem.F.entry_list_ge (PySem.F.args_list_ge_2 _ _) m
    ⟨ho, ho2, show Value.bool (lexGe ns ms) ≠ Value.notImplemented ∧ Q (.bool (lexGe ns ms)) s from ⟨(fun x => nomatch x), h⟩⟩ hu)
section
variable {X : Cx} {K : PySem.W.Frag}
def rGeL (K : PySem.W.Frag) : R2 := fun x y H Q => match x, y with
  | .int i, .int j => Q (.bl (decide (j ≤ i))) H
  | .ref a, .ref b => ∃ ns ms, SqL K H a (ns.map V.int) ∧ SqL K H b (ms.map V.int) ∧ Q (.bl (lexGe ns ms)) H
  | _, _ => False
theorem op_geL (hK : X.K = K) (hu : X.A.units < cLine) : OpR X (compareOp .GtE) (rGeL K) := by
  subst hK
  intro pins s σ H x y v u Q I rx ry h
  cases x with
  | int i => cases y with
    | int j => exact op_geX pins s σ H _ _ v u Q I rx ry h
    | _ => exact False.elim h
  | ref a => cases y with
    | ref b =>
      obtain ⟨ns, ms, ha, hb, q⟩ := h
      cases rx
      cases ry
      obtain ⟨its, r1, p1, _⟩ := I.list ha
      obtain ⟨its2, r2, p2, _⟩ := I.list hb
      exact ge_lists p1.isList p2.isList (intsAre_of r1) (intsAre_of r2) hu ⟨.bl (lexGe ns ms), H, I, rfl, q⟩
    | _ => exact False.elim h
  | _ => exact False.elim h
end
theorem seq_go {t u : TS} {D : Ends} {σ : St} {H : Hp} (h : ∀ nn : TS, nn = u → t { D with nx := fun σ' H' => nn D σ' H' } σ H) : tSeq t u D σ H := h u rfl
theorem for_rngO {lo : Int} {n : Nat} {g : TG} {tb : TS} {D : Ends} {σ : St} {H : Hp} (Pv : Nat → St → Hp → Prop) (h0 : Pv 0 σ H)
    (hs : ∀ i σ H, i < n → Pv i σ H → ∀ N : St → Hp → Prop, (∀ σ' H', Pv (i + 1) σ' H' → N σ' H') → g (.int (lo + i)) σ H fun σ2 H2 => tb { D with nx := N, ct := N, bk := D.nx } σ2 H2) (hd : ∀ σ H, Pv n σ H → D.nx σ H) : ForTurns g tb D (Itr lo n) σ H :=
  for_rng Pv h0 (fun i σ H hi hp => hs i σ H hi hp _ fun _ _ h => h) hd
theorem for_lstO {K : PySem.W.Frag} {a : Addr} {xs : List V} {g : TG} {tb : TS} {D : Ends} {σ : St} {H : Hp} (Pv : Nat → St → Hp → Prop) (h0 : Pv 0 σ H) (hl : ∀ i σ H, i ≤ xs.length → Pv i σ H → SqL K H a xs)
    (hs : ∀ i x σ H, xs[i]? = some x → Pv i σ H → ∀ N : St → Hp → Prop, (∀ σ' H', Pv (i + 1) σ' H' → N σ' H') → g x σ H fun σ2 H2 => tb { D with nx := N, ct := N, bk := D.nx } σ2 H2) (hd : ∀ σ H, Pv xs.length σ H → D.nx σ H) : ForTurns g tb D (Itl K a) σ H :=
  for_lst Pv h0 hl (fun i x σ H hi hp => hs i x σ H hi hp _ fun _ _ h => h) hd
end L2

namespace Mk
end Mk

namespace Mk
def splitL (c : Nat) : List Nat → List (List Nat)
  | [] => [[]]
  | a :: l => if a = c then [] :: splitL c l else match splitL c l with
    | [] => [[a]]
    | w :: ws => (a :: w) :: ws
def joinL (c : Nat) : List (List Nat) → List Nat
  | [] => []
  | [w] => w
  | w :: v :: ws => w ++ c :: joinL c (v :: ws)
theorem split_join_cons {c : Nat} : ∀ (w l : List Nat), c ∉ w → splitL c (w ++ c :: l) = w :: splitL c l
  | [], l, _ => by simp [splitL]
  | a :: w, l, h => by
    have ha : a ≠ c := fun e => h (by rw [e]; exact List.mem_cons_self)
    have ih := split_join_cons w l fun hc => h (List.mem_cons_of_mem _ hc)
    show (if a = c then _ else match splitL c (w ++ c :: l) with | [] => [[a]] | w :: ws => (a :: w) :: ws) = _
    rw [if_neg ha, ih]
theorem split_one {c : Nat} : ∀ (w : List Nat), c ∉ w → splitL c w = [w]
  | [], _ => rfl
  | a :: w, h => by
    have ha : a ≠ c := fun e => h (by rw [e]; exact List.mem_cons_self)
    have ih := split_one w fun hc => h (List.mem_cons_of_mem _ hc)
    show (if a = c then _ else match splitL c w with | [] => [[a]] | w :: ws => (a :: w) :: ws) = _
    rw [if_neg ha, ih]
theorem split_joinL {c : Nat} : ∀ (ws : List (List Nat)), ws ≠ [] → (∀ w ∈ ws, c ∉ w) → splitL c (joinL c ws) = ws
  | [], h, _ => absurd rfl h
  | [w], _, h => split_one w (h w List.mem_cons_self)
  | w :: v :: ws, _, h => by
    show splitL c (w ++ c :: joinL c (v :: ws)) = _
    rw [split_join_cons w _ (h w List.mem_cons_self), split_joinL (v :: ws) (by simp) fun x hx => h x (List.mem_cons_of_mem _ hx)]
theorem splitL_mem {c : Nat} : ∀ (l : List Nat), (splitL c l).length ≤ l.length + 1 ∧ ∀ w ∈ splitL c l, w.length ≤ l.length
  | [] => by simp [splitL]
  | a :: l => by
    obtain ⟨h1, h2⟩ := splitL_mem (c := c) l
    have e : splitL c (a :: l) = if a = c then [] :: splitL c l else match splitL c l with | [] => [[a]] | w :: ws => (a :: w) :: ws := rfl
    by_cases ha : a = c
    · rw [e, if_pos ha, List.length_cons, List.length_cons]
      refine ⟨by omega, fun w hw => ?_⟩
      rcases List.mem_cons.mp hw with rfl | hw
      · exact Nat.zero_le _
      · have := h2 w hw; omega
    · rw [e, if_neg ha, List.length_cons]
      cases hs : splitL c l with
      | nil => exact ⟨by simp, fun w hw => by rw [List.mem_singleton.mp hw]; simp⟩
      | cons v vs =>
        rw [hs] at h1 h2
        refine ⟨by simp only [List.length_cons] at h1 ⊢; omega, fun w hw => ?_⟩
        rcases List.mem_cons.mp hw with rfl | hw
        · have := h2 v List.mem_cons_self
          rw [List.length_cons]; omega
        · have := h2 w (List.mem_cons_of_mem _ hw); omega
end Mk
namespace L2
open PySem PySem.Spec PyProof.Rows
theorem strjoin_tx (c : Nat) : ∀ (ls : List (List Nat)), (tx [c]).join (ls.map tx) = tx (Mk.joinL c ls)
  | [] => rfl
  | [w] => by rfl
  | w :: v :: ws => by
    have ih := strjoin_tx c (v :: ws)
    show tx w ++ tx [c] ++ (tx [c]).join ((v :: ws).map tx) = tx (w ++ c :: Mk.joinL c (v :: ws))
    rw [ih, tx_app, tx_app, List.append_assoc]
    rfl
theorem tx_map (ls : List Str) : (ls.map fun z => z.cps.toList).map tx = ls := by
  rw [List.map_map]
  conv => rhs; rw [← List.map_id ls]
  exact List.map_congr_left fun z _ => tx_of z
theorem split_tx (l : List Nat) (c : Nat) : Txt.split (tx l) (tx [c]) = (Mk.splitL c l).map tx := by
  have h1 := StrLaws.join_split (tx l) (tx [c])
  have h2 : ∀ p ∈ Txt.split (tx l) (tx [c]), c ∉ p.cps.toList := fun p hp => StrLaws.split_free (tx l) c p hp
  have h3 := PyProof.Rows.split_pos (tx l) (tx [c])
  generalize Txt.split (tx l) (tx [c]) = ps at h1 h2 h3
  rw [← tx_map ps] at h1 ⊢
  rw [strjoin_tx] at h1
  rw [← tx_inj h1, Mk.split_joinL]
  · intro e
    have := congrArg List.length e
    simp at this
    rw [this] at h3
    simp at h3
  · intro w hw
    obtain ⟨p, hp, rfl⟩ := List.mem_map.mp hw
    exact h2 p hp
def rSplit : V → List V → Hp → VK → Prop := fun x vs H Q => match x, vs with
  | .str z, [.str y] => z.length ≤ 100000 ∧ ∃ c, y = tx [c] ∧ nw H (.lst ((Mk.splitL c z.cps.toList).map fun w => .str (tx w))) Q
  | _, _ => False
theorem vals_strs : ∀ (l : List (Str × Tok)), Vals ((l.map fun p => p.1).map V.str) (strValues l)
  | [] => .nil
  | p :: l => .cons ⟨p.2, rfl⟩ (vals_strs l)
theorem split_call {prog : Program} {w : World} {A : Around} {E : Value → Shared → Prop} {s : Shared} {x y : Str} {t u : Tok} {Q : Value → Shared → Prop} (hy : (y.length == 0) = false) (hsz : x.length + 2 ≤ sizeLine)
    (h : ∀ (l : List (Str × Tok)) (k : Nat), l.map (fun p => p.1) = Txt.split x y → Q (.ref s.heap.objs.size) { s with heap := s.heap.push { cls := .type "list", data := .seq (strValues l).toArray }, toks := k }) :
    wpAny (model prog w) A (call (.builtin "str.split") [.str x t, .str y u]) Q E s := by
  have ex : Txt.split x y = if (decide (x.length < y.length) || decide (Builtin.Str.strKind x < Builtin.Str.strKind y)) = true then [x] else if (Builtin.Str.occurrences x y 0 x.length (x.length + 1)).isEmpty = true then [x] else Builtin.Str.partsBetween x (Builtin.Str.occurrences x y 0 x.length (x.length + 1)) y.length := rfl
  cases h1 : (decide (x.length < y.length) || decide (Builtin.Str.strKind x < Builtin.Str.strKind y)) with
  | true =>
    rw [h1, if_pos rfl] at ex
    refine call_meets F.slot_str_split (typeIs_str s x t) F.entry_str_split (F.args_str_split_2 (Value.str x t) (Value.str y u)) (meets_str_split_cannot_occur x y t u h1) ?_
    exact h [(x, _)] _ ex.symm
  | false =>
    rw [h1, if_neg (by decide)] at ex
    cases hf : (Builtin.Str.occurrences x y 0 x.length (x.length + 1)).isEmpty with
    | true =>
      rw [hf, if_pos rfl] at ex
      refine call_meets F.slot_str_split (typeIs_str s x t) F.entry_str_split (F.args_str_split_2 (Value.str x t) (Value.str y u)) (meets_str_split_not_found x y t u h1 hy hf) ?_
      exact h [(x, _)] _ ex.symm
    | false =>
      rw [hf, if_neg (by decide)] at ex
      have hl := PyProof.Rows.split_le x y
      rw [ex] at hl
      refine call_meets F.slot_str_split (typeIs_str s x t) F.entry_str_split (F.args_str_split_2 (Value.str x t) (Value.str y u)) (meets_str_split_sep x y t u h1 hy hf (by omega) (by omega)) ?_
      show Q _ _
      rw [strsFrom_eq]
      exact h _ _ ((numbered_texts _ _).trans ex.symm)
theorem mt_split {X : Cx} : MtM X "str.split" rSplit := by
  intro pins s σ H x vs v us Q I rx rv h
  match x, vs, h with
  | .str z, [.str y], h =>
    obtain ⟨hz, c, rfl, q⟩ := h
    obtain ⟨t, rfl⟩ := rx
    obtain ⟨u, rfl, ru⟩ := rv.one
    obtain ⟨t2, rfl⟩ := ru
    have hb : z.length + 2 ≤ sizeLine := by rw [sizeLine_eq]; omega
    refine split_call rfl hb fun l k e => ?_
    have e2 : l.map (fun p => p.1) = (Mk.splitL c z.cps.toList).map tx := by rw [e, ← split_tx, tx_of]
    have hl : (strValues l).length ≤ z.length + 2 := by
      have := PyProof.Rows.split_le z (tx [c])
      rw [← e, List.length_map] at this
      rw [show (strValues l).length = l.length from List.length_map ..]
      exact this
    have r := vals_strs l
    rw [e2, List.map_map] at r
    refine ⟨.ref s.heap.objs.size, _, I.laid (t' := k) (o := .lst ((Mk.splitL c z.cps.toList).map fun w => .str (tx w))) (fun b ob q => Heap.get?_push_of_some _ q) (Nat.le_refl _) ?_, rfl, q.go _ (I.hok.fresh (Nat.le_refl _))⟩
    refine ⟨?_, _, 0, r, Heap.get?_push_size _ rfl⟩
    have := r.length
    rw [show ((Mk.splitL c z.cps.toList).map fun w => V.str (tx w)) = (Mk.splitL c z.cps.toList).map (V.str ∘ tx) from rfl, this]
    omega
def rMulS : R2 := fun x y H Q => match x, y with
  | .int i, .int j => (i.natAbs < 2 ^ 60 ∨ j.natAbs < 2 ^ 60) ∧ Q (.int (i * j)) H
  | _, _ => False
theorem op_mulS {X : Cx} : OpR X (binaryOp .Mult) rMulS := by
  intro pins s σ H x y v u Q I rx ry h
  cases x with
  | int i => cases y with
    | int j =>
      refine (opI (X := X) (f := binaryOp .Mult) (C := fun i j => i.natAbs < 2 ^ 60 ∨ j.natAbs < 2 ^ 60) (g := fun i j => i * j) fun i j _ _ _ _ _ hc q => mul_int q ?_) pins s σ H _ _ v u Q I rx ry ⟨_, _, rfl, rfl, h.1, h.2⟩
      rcases hc with hc | hc
      · exact IntMulOk.of_left (Nat.le_trans (intBits_le_iff.mpr hc) (by decide))
      · exact IntMulOk.of_right (Nat.le_trans (intBits_le_iff.mpr hc) (by decide))
    | _ => exact False.elim h
  | _ => exact False.elim h
end L2

namespace L2
open PySem PySem.Spec PyProof.Rows
theorem ev_rAddX_1 {i j} {H : Hp} {Q : VK} : rAddX (.int i) (.int j) H Q = (Q (.int (i + j)) H) := propext Iff.rfl
theorem ev_rAddX_2 {a b} {H : Hp} {Q : VK} : rAddX (.str a) (.str b) H Q = (a.length + b.length ≤ sizeLine ∧ Q (.str (a ++ b)) H) := propext Iff.rfl
theorem ev_rAddX_3 {l b} {H : Hp} {Q : VK} : rAddX (.ref l) (.ref b) H Q = (∃ xs zs, H l = some (.lst xs) ∧ H b = some (.lst zs) ∧ xs.length + zs.length ≤ sizeLine ∧ nw H (.lst (xs ++ zs)) Q) := propext Iff.rfl
theorem ev_rSubX_1 {i j} {H : Hp} {Q : VK} : rSubX (.int i) (.int j) H Q = (Q (.int (i - j)) H) := propext Iff.rfl
theorem ev_rMulX_1 {i j} {H : Hp} {Q : VK} : rMulX (.int i) (.int j) H Q = (CBig i j ∧ Q (.int (i * j)) H) := propext Iff.rfl
theorem ev_rFdivX_1 {i j} {H : Hp} {Q : VK} : rFdivX (.int i) (.int j) H Q = ((0 < j ∧ j < 2 ^ 1000) ∧ Q (.int (i / j)) H) := propext Iff.rfl
theorem ev_rModX_1 {i j} {H : Hp} {Q : VK} : rModX (.int i) (.int j) H Q = (0 < j ∧ Q (.int (i % j)) H) := propext Iff.rfl
theorem ev_rPowX_1 {i j} {H : Hp} {Q : VK} : rPowX (.int i) (.int j) H Q = ((0 ≤ j ∧ j ≤ 1000000 ∧ i.natAbs < 2 ^ 64) ∧ Q (.int (i ^ j.toNat)) H) := propext Iff.rfl
theorem ev_rCmpX_1 {f : Int → Int → Bool} {i j} {H : Hp} {Q : VK} : rCmpX f (.int i) (.int j) H Q = (Q (.bl (f i j)) H) := propext Iff.rfl
theorem ev_rGeL_1 {K : PySem.W.Frag} {i j} {H : Hp} {Q : VK} : rGeL K (.int i) (.int j) H Q = (Q (.bl (decide (j ≤ i))) H) := propext Iff.rfl
theorem ev_rEqX_1 {K : PySem.W.Frag} {i j} {H : Hp} {Q : VK} : rEqX K (.int i) (.int j) H Q = (Q (.bl (decide (i = j))) H) := propext Iff.rfl
theorem ev_rEqX_3 {K : PySem.W.Frag} {i j} {H : Hp} {Q : VK} : rEqX K (.str i) (.str j) H Q = (Q (.bl (decide (i = j))) H) := propext Iff.rfl
theorem ev_rEqX_4 {K : PySem.W.Frag} {a b} {H : Hp} {Q : VK} : rEqX K (.ref a) (.ref b) H Q = (∃ xs ys, SqL K H a xs ∧ SqL K H b ys ∧ xs.all flatV = true ∧ ys.all flatV = true ∧ Q (.bl (eqVs xs ys)) H) := propext Iff.rfl
theorem ev_rNeX_1 {K : PySem.W.Frag} {i j} {H : Hp} {Q : VK} : rNeX K (.int i) (.int j) H Q = (Q (.bl (!decide (i = j))) H) := propext Iff.rfl
theorem ev_rNeX_3 {K : PySem.W.Frag} {i j} {H : Hp} {Q : VK} : rNeX K (.str i) (.str j) H Q = (Q (.bl (!decide (i = j))) H) := propext Iff.rfl
theorem ev_rIxX_1 {K : PySem.W.Frag} {p i} {H : Hp} {Q : VK} : rIxX K (.ref p) (.int i) H Q = (∃ xs v, Sq K H p xs ∧ atI xs i = some v ∧ Q v H) := propext Iff.rfl
theorem ev_rIxX_2 {K : PySem.W.Frag} {z i} {H : Hp} {Q : VK} : rIxX K (.str z) (.int i) H Q = (z.length ≤ sizeLine ∧ ∃ c, atI z.cps.toList i = some c ∧ Q (.str ⟨#[c]⟩) H) := propext Iff.rfl
theorem ev_rLenX_1 {K : PySem.W.Frag} {z} {H : Hp} {Q : VK} : rLenX K [.str z] H Q = (z.length ≤ sizeLine ∧ Q (.int z.length) H) := propext Iff.rfl
theorem ev_rLenX_2 {K : PySem.W.Frag} {p} {H : Hp} {Q : VK} : rLenX K [.ref p] H Q = (∃ xs, Sq K H p xs ∧ Q (.int xs.length) H) := propext Iff.rfl
theorem ev_rAbsX_1 {i} {H : Hp} {Q : VK} : rAbsX [.int i] H Q = (Q (.int (i.natAbs : Int)) H) := propext Iff.rfl
theorem ev_rMinX_1 {i j} {H : Hp} {Q : VK} : rMinX [.int i, .int j] H Q = (Q (.int (min i j)) H) := propext Iff.rfl
theorem ev_rMaxX_1 {i j} {H : Hp} {Q : VK} : rMaxX [.int i, .int j] H Q = (Q (.int (max i j)) H) := propext Iff.rfl
theorem ev_rListX_1 {K : PySem.W.Frag} {a} {H : Hp} {Q : VK} : rListX K [.ref a] H Q = (∃ ys, (Sq K H a ys ∨ ∃ lo hi, H a = some (.rng lo hi) ∧ (-(2 ^ 62) ≤ lo ∧ lo < 2 ^ 62 ∧ -(2 ^ 62) ≤ hi ∧ hi < 2 ^ 62) ∧ (hi - lo).toNat ≤ 2 ^ 20 ∧ ys = rngV lo (hi - lo).toNat) ∧ nw H (.lst ys) Q) := propext Iff.rfl
theorem ev_rRngX_1 {j} {H : Hp} {Q : VK} : rRngX [.int j] H Q = (nw H (.rng 0 j) Q) := propext Iff.rfl
theorem ev_rIsiC_1 {c : Tg} {x n} {H : Hp} {Q : VK} : rIsiC c [x, .ty n] H Q = (n = c.name ∧ ∃ t, tagV H x = some t ∧ Q (.bl (t.sub c)) H) := propext Iff.rfl
theorem ev_rSlY_1 {K : PySem.W.Frag} {a} {lo} {hi} {H : Hp} {Q : VK} : rSlY K (.ref a) lo hi H Q = (∃ xs, SqL K H a xs ∧ nw H (.lst (cutV xs lo hi)) Q) := propext Iff.rfl
theorem ev_rJoinS_1 {K : PySem.W.Frag} {z p} {H : Hp} {Q : VK} : rJoinS K (.str z) [.ref p] H Q = (∃ ys : List Str, SqL K H p (ys.map V.str) ∧ (ys.map (·.length)).sum + ys.length * z.length ≤ 16777216 ∧ Q (.str (Txt.join z ys)) H) := propext Iff.rfl
theorem ev_rSplit_1 {z y} {H : Hp} {Q : VK} : rSplit (.str z) [.str y] H Q = (z.length ≤ 100000 ∧ ∃ c, y = tx [c] ∧ nw H (.lst ((Mk.splitL c z.cps.toList).map fun w => .str (tx w))) Q) := propext Iff.rfl
theorem ev_rMulS_1 {i j} {H : Hp} {Q : VK} : rMulS (.int i) (.int j) H Q = ((i.natAbs < 2 ^ 60 ∨ j.natAbs < 2 ^ 60) ∧ Q (.int (i * j)) H) := propext Iff.rfl
theorem ev_rSetS_1 {P : Program} {w : World} {z} {H : Hp} {Q : VK} : rSetS P w [.str z] H Q = (z.length ≤ 4000 ∧ ∀ p H', H p = none → Same H H' → H' p = some (setT P w p (metK (valT z) z.length)) → Q (.ref p) H') := propext Iff.rfl
theorem ev_rLenT_1 {P : Program} {w : World} {p} {H : Hp} {Q : VK} : rLenT P w [.ref p] H Q = (∃ l, H p = some (setT P w p l) ∧ Q (.int l.length) H) := propext Iff.rfl
theorem ev_iSeqV_1 {K : PySem.W.Frag} {a : Addr} {H : Hp} {R : It → Hp → Prop} : iSeqV K (.ref a) H R = (((∃ xs, SqL K H a xs) ∧ R (Itl K a) H) ∨ ((∃ xs, SqT K H a xs) ∧ R (Itt K a) H)) := propext Iff.rfl
theorem ev_iSeqV_2 {K : PySem.W.Frag} {z : Str} {H : Hp} {R : It → Hp → Prop} : iSeqV K (.str z) H R = R (Itx z) H := propext Iff.rfl
end L2

namespace L2
open PySem PySem.Spec PyProof.Rows
section
variable {X : Cx}
end
section
variable {X : Cx} {tg : Expr}
end
section
variable {X : Cx}
theorem ap_dget1 {td ty : TE} {σ : St} {H : Hp} {Q : VK} : tDGet1 td ty σ H Q = td σ H fun x H1 => ∃ a, x = .ref a ∧ IsD H1 a ∧ ty σ H1 fun y H2 => ∃ o, DGet H2 a y o ∧ Q (o.getD .non) H2 := propext Iff.rfl
theorem pe_dget1G {o e : Expr} {td ty : TE} {apos cpos : Pos} (hu : X.A.units + 1 < cLine) (ho : PE X o td) (he : PE X e ty) (hbase : attributeBase o "get" X.env (eval o X.env) = eval o X.env := by kernel_rfl) (hs : noStars [e] = true := by kernel_rfl)
    (hline : (apos.endLine == cpos.line) = true := by kernel_rfl) (htr : backTo cpos (starEach [e] X.env) = [(false, eval e X.env)] := by rfl) : PE X (.Call (.Attribute o "get" apos) [e] [] cpos) (tDGet1 td ty) := by
  refine pe_dget1 hu ho he ⟨hbase, ?_, hline, htr⟩
  rw [backTo_all hs]
  rfl
end
end L2

namespace Mk
end Mk

namespace L2
open PySem PySem.Spec PyProof.Rows
def leafV : V → Bool
  | .ref _ => true
  | x => flatV x
theorem eqV_refl : ∀ {x : V}, flatV x = true → eqV x x = true
  | .non, _ => rfl
  | .bl b, _ => by show (b == b) = true; simp
  | .int i, _ => by show (i == i) = true; simp
  | .str z, _ => by show (z == z) = true; simp
theorem eqAt_leaf {A : Around} {s : Shared} {x : V} {u v : Value} (ru : RelV x u) (rv : RelV x v) (h : leafV x = true) : SeqAt.EqAt A s u v true := by
  cases x with
  | ref a => cases ru; cases rv; exact SeqAt.EqAt.same _
  | non => have := eqAt_V (A := A) (s := s) ru rv rfl rfl; rwa [eqV_refl rfl] at this
  | bl b => have := eqAt_V (A := A) (s := s) ru rv rfl rfl; rwa [eqV_refl rfl] at this
  | int b => have := eqAt_V (A := A) (s := s) ru rv rfl rfl; rwa [eqV_refl rfl] at this
  | str b => have := eqAt_V (A := A) (s := s) ru rv rfl rfl; rwa [eqV_refl rfl] at this
  | _ => cases h
theorem getD_vals {xs : List V} {us : List Value} (r : Vals xs us) {j : Nat} (h : j < us.toArray.size) : ∃ x, xs[j]? = some x ∧ RelV x us.toArray[j] := by
  have l := r.length
  rw [List.size_toArray] at h
  have e1 : xs[j]? = some (xs[j]'(by omega)) := List.getElem?_eq_getElem _
  obtain ⟨u, hu, ru⟩ := r.get e1
  refine ⟨_, e1, ?_⟩
  have : us.toArray[j] = u := by
    have := List.getElem?_eq_some_iff.mp hu
    simpa using this.2
  rw [this]; exact ru
section
variable {X : Cx}
end
end L2

namespace L2
section
variable {α : Type} [DecidableEq α]
abbrev Nk (α : Type) := α × Bool
structure Ent (α : Type) where
  key : Nk α
  d : Int
  par : Option (Nk α)
  t : Nat
def putE (fs : List (Ent α)) (e : Ent α) : List (Ent α) := if fs.any (fun x => x.key == e.key) then fs.map (fun x => if x.key == e.key then e else x) else fs ++ [e]
theorem mem_putE {fs : List (Ent α)} {e x : Ent α} : x ∈ putE fs e ↔ x = e ∨ (x ∈ fs ∧ x.key ≠ e.key) := by
  unfold putE
  split
  · rename_i h
    obtain ⟨y, hy, hk⟩ := List.any_eq_true.mp h
    rw [List.mem_map]
    constructor
    · rintro ⟨z, hz, rfl⟩
      split
      · exact .inl rfl
      · rename_i hn
        exact .inr ⟨hz, fun q => hn (by simp [q])⟩
    · rintro (rfl | ⟨hx, hn⟩)
      · exact ⟨y, hy, by rw [if_pos hk]⟩
      · exact ⟨x, hx, by rw [if_neg (by simpa using hn)]⟩
  · rename_i h
    have h' : ∀ y ∈ fs, y.key ≠ e.key := fun y hy q => h (List.any_eq_true.mpr ⟨y, hy, by simp [q]⟩)
    rw [List.mem_append, List.mem_singleton]
    constructor
    · rintro (hx | rfl)
      · exact .inr ⟨hx, h' x hx⟩
      · exact .inl rfl
    · rintro (rfl | ⟨hx, _⟩)
      · exact .inr rfl
      · exact .inl hx
theorem keys_putE (fs : List (Ent α)) (e : Ent α) : (putE fs e).map Ent.key = fs.map Ent.key ∨ ((putE fs e).map Ent.key = fs.map Ent.key ++ [e.key] ∧ e.key ∉ fs.map Ent.key) := by
  unfold putE
  split
  · left
    rw [List.map_map]
    apply List.map_congr_left
    intro x _
    show (if x.key == e.key then e else x).key = x.key
    split
    · rename_i h; exact (eq_of_beq h).symm
    · rfl
  · rename_i h
    right
    refine ⟨by simp, fun q => ?_⟩
    obtain ⟨y, hy, hk⟩ := List.mem_map.mp q
    exact h (List.any_eq_true.mpr ⟨y, hy, by simp [hk]⟩)
theorem nodup_putE {fs : List (Ent α)} {e : Ent α} (h : (fs.map Ent.key).Nodup) : ((putE fs e).map Ent.key).Nodup := by
  rcases keys_putE fs e with q | ⟨q, n⟩
  · rw [q]; exact h
  · rw [q, List.nodup_append]
    exact ⟨h, by simp, fun a ha b hb => by rw [List.mem_singleton.mp hb]; exact fun z => n (z ▸ ha)⟩
structure Dij (St : Nk α → List (Nk α × Int)) (C : Nk α → Nk α × Int → Prop) (u0 : Nk α) (fs ss : List (Ent α)) : Prop where
  nf : (fs.map Ent.key).Nodup
  sub : ∀ e ∈ ss, e ∈ fs
  ns : (ss.map Ent.key).Nodup
  st : ∃ e ∈ fs, e.key = u0 ∧ e.d = 0
  nn : ∀ e ∈ fs, 0 ≤ e.d
  cl : ∀ e ∈ ss, ∀ p, C e.key p → ∃ e' ∈ fs, e'.key = p.1 ∧ e'.d ≤ e.d + p.2
  pa : ∀ e ∈ fs, (e.par = none ∧ e.key = u0 ∧ e.d = 0) ∨ ∃ u ∈ ss, ∃ c, e.par = some u.key ∧ (e.key, c) ∈ St u.key ∧ e.d = u.d + c
  od : ∀ e ∈ ss, ∀ e' ∈ fs, e' ∉ ss → e.d ≤ e'.d
  rk : ∀ pre e post, ss = pre ++ e :: post → (e.par = none ∧ e.key = u0 ∧ e.d = 0) ∨ ∃ u ∈ pre, ∃ c, e.par = some u.key ∧ (e.key, c) ∈ St u.key ∧ e.d = u.d + c
theorem key_inj {fs : List (Ent α)} (h : (fs.map Ent.key).Nodup) {x y : Ent α} (hx : x ∈ fs) (hy : y ∈ fs) (e : x.key = y.key) : x = y := by
  induction fs with
  | nil => cases hx
  | cons z r ih =>
    rw [List.map_cons, List.nodup_cons] at h
    rcases List.mem_cons.mp hx with rfl | hx
    · rcases List.mem_cons.mp hy with rfl | hy
      · rfl
      · exact absurd (List.mem_map.mpr ⟨y, hy, e.symm⟩) h.1
    · rcases List.mem_cons.mp hy with q | hy
      · exact absurd (List.mem_map.mpr ⟨x, hx, by rw [← q]; exact e⟩) h.1
      · exact ih h.2 hx hy
theorem Dij.start (St : Nk α → List (Nk α × Int)) (C : Nk α → Nk α × Int → Prop) (u0 : Nk α) (t : Nat) : Dij St C u0 [⟨u0, 0, none, t⟩] [] where
  nf := by simp
  sub := fun e h => by cases h
  ns := by simp
  st := ⟨⟨u0, 0, none, t⟩, by simp, rfl, rfl⟩
  nn := fun e h => by rw [List.mem_singleton.mp h]; exact Int.le_refl 0
  cl := fun e h => by cases h
  pa := fun e h => by rw [List.mem_singleton.mp h]; exact .inl ⟨rfl, rfl, rfl⟩
  od := fun e h => by cases h
  rk := fun pre e post h => by
    have := congrArg List.length h
    simp at this
theorem Dij.put {St : Nk α → List (Nk α × Int)} {C : Nk α → Nk α × Int → Prop} {u0 : Nk α} {fs ss : List (Ent α)} (D : Dij St C u0 fs ss) {e : Ent α} (he : e ∈ ss) (hm : ∀ x ∈ ss, x.d ≤ e.d) {q : Nk α × Int} (hq : q ∈ St e.key) (hc : 0 ≤ q.2)
    (hl : ∀ x ∈ fs, x.key = q.1 → e.d + q.2 < x.d) (t : Nat) : Dij St (fun k p => C k p ∨ (k = e.key ∧ p = q)) u0 (putE fs ⟨q.1, e.d + q.2, some e.key, t⟩) ss := by
  have hns : ∀ x ∈ ss, x.key ≠ q.1 := fun x hx hk => by
    have h1 := hl x (D.sub x hx) hk
    have h2 := hm x hx
    omega
  have h0 := D.nn e (D.sub e he)
  refine ⟨nodup_putE D.nf, fun x hx => mem_putE.mpr (.inr ⟨D.sub x hx, hns x hx⟩), D.ns, ?_, fun x hx => ?_, fun x hx p hp => ?_, fun x hx => ?_, fun x hx y hy hyn => ?_, D.rk⟩
  · obtain ⟨x, hx, hk, hd⟩ := D.st
    refine ⟨x, mem_putE.mpr (.inr ⟨hx, fun z => ?_⟩), hk, hd⟩
    have := hl x hx z
    omega
  · rcases mem_putE.mp hx with rfl | ⟨h, _⟩
    · show 0 ≤ e.d + q.2; omega
    · exact D.nn x h
  · rcases hp with hp | ⟨h1, rfl⟩
    · obtain ⟨y, hy, hyk, hyd⟩ := D.cl x hx p hp
      by_cases z : y.key = q.1
      · refine ⟨_, mem_putE.mpr (.inl rfl), ?_, ?_⟩
        · show q.1 = p.1; rw [← z, hyk]
        · show e.d + q.2 ≤ _
          have := hl y hy z
          omega
      · exact ⟨y, mem_putE.mpr (.inr ⟨hy, z⟩), hyk, hyd⟩
    · have : x = e := key_inj D.nf (D.sub x hx) (D.sub e he) h1
      subst this
      exact ⟨_, mem_putE.mpr (.inl rfl), rfl, Int.le_refl _⟩
  · rcases mem_putE.mp hx with rfl | ⟨h, _⟩
    · exact .inr ⟨e, he, q.2, rfl, hq, rfl⟩
    · exact D.pa x h
  · rcases mem_putE.mp hy with rfl | ⟨h, _⟩
    · have := hm x hx
      show x.d ≤ e.d + q.2; omega
    · exact D.od x hx y h hyn
theorem Dij.imp {St : Nk α → List (Nk α × Int)} {C C' : Nk α → Nk α × Int → Prop} {u0 : Nk α} {fs ss : List (Ent α)} (D : Dij St C u0 fs ss) (h : ∀ k p, C' k p → C k p) : Dij St C' u0 fs ss :=
  ⟨D.nf, D.sub, D.ns, D.st, D.nn, fun x hx p hp => D.cl x hx p (h _ _ hp), D.pa, D.od, D.rk⟩
inductive Wk (St : Nk α → List (Nk α × Int)) (u : Nk α) : Nk α → Int → Prop
  | nil : Wk St u u 0
  | snoc {v x : Nk α} {w c : Int} : Wk St u v w → (x, c) ∈ St v → Wk St u x (w + c)
theorem Wk.mono {St St' : Nk α → List (Nk α × Int)} {u v : Nk α} {w : Int} (h : ∀ k p, p ∈ St k → p ∈ St' k) (x : Wk St u v w) : Wk St' u v w := by
  induction x with
  | nil => exact .nil
  | snoc _ m ih => exact ih.snoc (h _ _ m)
theorem Wk.cons {St : Nk α → List (Nk α × Int)} {u v y : Nk α} {w c : Int} (m : (v, c) ∈ St u) (x : Wk St v y w) : Wk St u y (c + w) := by
  induction x with
  | nil =>
    have := Wk.snoc (Wk.nil (St := St) (u := u)) m
    rw [Int.zero_add] at this
    rw [Int.add_zero]; exact this
  | snoc _ m2 ih =>
    have := ih.snoc m2
    rw [Int.add_assoc] at this; exact this
theorem Wk.symm {St : Nk α → List (Nk α × Int)} {u v : Nk α} {w : Int} (h : ∀ k x c, (x, c) ∈ St k → (k, c) ∈ St x) (x : Wk St u v w) : Wk St v u w := by
  induction x with
  | nil => exact .nil
  | snoc _ m ih => rw [Int.add_comm]; exact Wk.cons (h _ _ _ m) ih
structure Sett (St : Nk α → List (Nk α × Int)) (u0 : Nk α) (ss : List (Ent α)) : Prop where
  ns : (ss.map Ent.key).Nodup
  le : ∀ v w, Wk St u0 v w → ∃ e ∈ ss, e.key = v ∧ e.d ≤ w
  wk : ∀ e ∈ ss, Wk St u0 e.key e.d
  rk : ∀ pre e post, ss = pre ++ e :: post → (e.par = none ∧ e.key = u0 ∧ e.d = 0) ∨ ∃ u ∈ pre, ∃ c, e.par = some u.key ∧ (e.key, c) ∈ St u.key ∧ e.d = u.d + c
theorem wk_pre {St : Nk α → List (Nk α × Int)} {u0 : Nk α} : ∀ (n : Nat) (ss : List (Ent α)), ss.length = n →
    (∀ pre e post, ss = pre ++ e :: post → (e.par = none ∧ e.key = u0 ∧ e.d = 0) ∨ ∃ u ∈ pre, ∃ c, e.par = some u.key ∧ (e.key, c) ∈ St u.key ∧ e.d = u.d + c) → ∀ e ∈ ss, Wk St u0 e.key e.d
  | 0, ss, hl, _, e, he => by rw [List.length_eq_zero_iff.mp hl] at he; cases he
  | n + 1, ss, hl, h, e, he => by
    obtain ⟨pre, post, q⟩ := List.append_of_mem he
    rcases h pre e post q with ⟨_, hk, hd⟩ | ⟨u, hu, c, _, hm, hd⟩
    · rw [hk, hd]; exact .nil
    · have lp : pre.length ≤ n := by
        have := congrArg List.length q
        simp at this
        omega
      have ih : ∀ e ∈ pre, Wk St u0 e.key e.d := wk_pre_le pre.length n lp pre rfl fun p1 e1 p2 q1 => h p1 e1 (p2 ++ e :: post) (by rw [q, q1]; simp)
      rw [hd]
      exact (ih u hu).snoc hm
where
  wk_pre_le (m n : Nat) (hmn : m ≤ n) (ss : List (Ent α)) (hl : ss.length = m) (h : ∀ pre e post, ss = pre ++ e :: post → (e.par = none ∧ e.key = u0 ∧ e.d = 0) ∨ ∃ u ∈ pre, ∃ c, e.par = some u.key ∧ (e.key, c) ∈ St u.key ∧ e.d = u.d + c) : ∀ e ∈ ss, Wk St u0 e.key e.d :=
    wk_pre m ss hl h
theorem Dij.done {St : Nk α → List (Nk α × Int)} {u0 : Nk α} {fs ss : List (Ent α)} (D : Dij St (fun k p => p ∈ St k) u0 fs ss) (h : ∀ e ∈ fs, e ∈ ss) : Sett St u0 ss := by
  refine ⟨D.ns, fun v w x => ?_, fun e he => wk_pre ss.length ss rfl D.rk e he, D.rk⟩
  induction x with
  | nil =>
    obtain ⟨e, he, hk, hd⟩ := D.st
    exact ⟨e, h e he, hk, by omega⟩
  | @snoc v x w c _ m ih =>
    obtain ⟨e, he, hk, hd⟩ := ih
    obtain ⟨e', he', hk', hd'⟩ := D.cl e he (x, c) (by rw [hk]; exact m)
    exact ⟨e', h e' he', hk', by have : (x, c).2 = c := rfl; omega⟩
structure Ln (α : Type) where
  a : α
  b : α
  p : Option Int
  c : Option Int
def Ln.cost (l : Ln α) (f : Bool) : Option Int := if f then l.c else l.p
def Up (x : Option Int) (w : Int) : Prop := ∃ a, x = some a ∧ a ≤ w
theorem Up.mono {x : Option Int} {w w' : Int} (h : Up x w) (l : w ≤ w') : Up x w' := by obtain ⟨a, e, q⟩ := h; exact ⟨a, e, by omega⟩
section
variable {zs bs : List α} {ls : List (Ln α)} {p g : Int}
end
end
end L2

namespace L2
open PySem PySem.Spec PyProof.Rows
abbrev tabO (q : Str) : HO := .tbl #[.str q 0]
section
variable {X : Cx} {pins : List (Addr × Obj)} {σ : St} {H : Hp} {s : Shared}
theorem tab_of {P : Addr} {q : Str} (I : Inv X pins σ H s) (e : H P = some (tabO q)) : ∃ qs : Array Value, s.heap.get? P = some { cls := .none, data := .fields qs } ∧ TriplesOk qs.toList ∧
    ∀ pos c, codeAmong pos qs.toList = some c → ∃ c' oc vs t, c = .ref c' ∧ H c' = some (.frz oc (.own P)) ∧ s.heap.get? c' = some oc ∧ oc.data = .fields vs ∧ vs[1]? = some (.str q t) := by
  obtain ⟨qs, h1, h2, h3⟩ := (show ObjOk X.prog X.w H s.heap P (tabO q) from I.hok P _ e)
  refine ⟨qs, h1, h2, fun pos c z => ?_⟩
  obtain ⟨c', oc, vs, t, q', a1, a2, a4, a5, a6⟩ := h3 pos c z
  have a7 : q = q' := by
    have := congrArg Array.toList a6
    simp at this
    exact this
  subst a7
  exact ⟨c', oc, vs, t, a1, a2, (I.hok c' _ a2).1, a4, a5⟩
theorem Inv.tabled {P c' : Addr} {q : Str} {h' : Heap} {ps more : Array Value} {tk : Nat} {oc : Obj} {vs : Array Value} {tq : Tok} (I : Inv X pins σ H s) (e : H P = some (tabO q)) (hx : ∀ b o, b ≠ P → s.heap.get? b = some o → h'.get? b = some o) (hc : s.heap.objs.size ≤ c')
    (h1 : h'.get? P = some { cls := .none, data := .fields more }) (h2 : TriplesOk more.toList) (h3 : ∀ pos c, codeAmong pos more.toList = some c → codeAmong pos ps.toList = some c ∨ c = .ref c') (h0 : s.heap.get? P = some { cls := .none, data := .fields ps })
    (c1 : h'.get? c' = some oc) (c2 : oc.data = .fields vs) (c3 : vs[1]? = some (.str q tq)) : Inv X pins σ (upd H c' (.frz oc (.own P))) { s with heap := h', toks := tk } := by
  have hn := I.hok.fresh hc
  have nP : ∀ b, H b = none → b ≠ P := fun b hb z => by rw [z, e] at hb; cases hb
  have lt : ∀ b o, s.heap.get? b = some o → b ≠ c' := fun b o z => Nat.ne_of_lt (Nat.lt_of_lt_of_le (Heap.lt_size z) hc)
  obtain ⟨qs, g1, g2, g3⟩ := tab_of I e
  have eq : qs = ps := by
    rw [h0] at g1
    have := Option.some.inj g1
    injection this with _ _ z
    injection z with z
    exact z.symm
  subst eq
  refine I.un ⟨fun b o z n _ _ => hx b o (nP b n) z, fun b o z n _ _ => ⟨o.slots, hx b o (nP b n) z⟩, fun b o z n _ => by rw [upd_ne (lt b o z)]; exact n, fun b o z _ => ?_, fun b xs z => by rw [upd_ne (ne_of_none z hn)]; exact z, fun b u xs z => by rw [upd_ne (ne_of_none z hn)]; exact z,
    fun b xs z => ⟨#[], by rw [upd_ne (ne_of_none z hn), z]; simp⟩⟩ fun b u z => ?_
  · by_cases hb : b = P
    · rw [hb]; exact ⟨_, h1⟩
    · exact ⟨o, hx b o hb z⟩
  · by_cases hb : b = c'
    · subst hb
      rw [upd_same] at z; cases z
      exact ⟨c1, _, c1⟩
    · rw [upd_ne hb] at z
      by_cases hp : b = P
      · subst hp
        rw [e] at z; cases z
        refine ⟨more, h1, h2, fun pos c w => ?_⟩
        rcases h3 pos c w with w | rfl
        · obtain ⟨c2', oc2, vs2, t2, a1, a2, a3, a4, a5⟩ := g3 pos c w
          exact ⟨c2', oc2, vs2, t2, q, a1, by rw [upd_ne (ne_of_none a2 hn)]; exact a2, a4, a5, rfl⟩
        · exact ⟨c', oc, vs, tq, q, rfl, upd_same, c2, c3, rfl⟩
      · refine (I.hok b u z).stay (fun c v hc2 w => hx c v ?_ w) (fun c w => by rw [upd_ne (ne_of_none w hn)]; exact w) fun c xs w => by rw [upd_ne (ne_of_none w hn)]; exact w
        rcases hc2 with rfl | w2
        · exact hp
        · exact ne_of w2 e (by intro z; cases z)
end
theorem among_snoc {pos p2 : Pos} {c : Value} : ∀ (l : List Value), TriplesOk l → ∀ x, codeAmong pos (l ++ [rawInt p2.line, rawInt p2.col, c]) = some x → codeAmong pos l = some x ∨ x = c := by
  intro l h
  fun_induction TriplesOk l with
  | case1 =>
    intro x e
    simp only [List.nil_append, codeAmong, rawInt] at e
    split at e
    · exact .inr (Option.some.inj e).symm
    · cases e
  | case2 a t b u y rest ih =>
    intro x e
    simp only [List.cons_append, codeAmong] at e ⊢
    split at e
    · rename_i hc
      rw [if_pos hc]; exact .inl e
    · rename_i hc
      rw [if_neg hc]; exact ih h x e
  | case3 => exact h.elim
section
variable {X : Cx} {pins : List (Addr × Obj)} {σ : St} {H : Hp} {s : Shared} {a : Addr} {y v : V} {u : Value} {A : Around} {E : Value → Shared → Prop}
end
section
variable {X : Cx} {pins : List (Addr × Obj)} {σ : St} {H : Hp} {s : Shared}
def CodAt (H : Hp) (P : Addr) (q : Str) (c' : Addr) : Prop := ∃ oc vs t, H c' = some (.frz oc (.own P)) ∧ oc.data = .fields vs ∧ vs[1]? = some (.str q t)
theorem CodAt.same {H H' : Hp} {P c' : Addr} {q : Str} (h : CodAt H P q c') (s : Same H H') : CodAt H' P q c' := by
  obtain ⟨oc, vs, t, h1, h2⟩ := h
  exact ⟨oc, vs, t, s _ _ h1, h2⟩
end
section
variable {prog : Program} {w : World} {A : Around} {E : Value → Shared → Prop} {s : Shared} {d it : Addr} {D J : Obj} {es : Array DictEntry} {ep i : Nat}
end
section
variable {X : Cx} {pins : List (Addr × Obj)} {σ : St} {H : Hp} {A : Around} {s0 : Shared} {l q I S : Addr} {vs : List Value} {R : Result → Shared → Prop}
end
theorem DGet.same {H H' : Hp} {a : Addr} {y : V} {o : Option V} (s : Same H H') (g : DGet H a y o) : DGet H' a y o := by
  rcases g with ⟨kvs, k, e, h⟩ | ⟨kvs, k, b, e, h1, h2, h3⟩
  · exact .inl ⟨kvs, k, e.elim (fun z => .inl (s _ _ z)) fun ⟨o, z⟩ => .inr ⟨o, s _ _ z⟩, h⟩
  · exact .inr ⟨kvs, k, b, e.elim (fun z => .inl (s _ _ z)) fun ⟨o, z⟩ => .inr ⟨o, s _ _ z⟩, h1, s _ _ h2, h3⟩
section
variable {X : Cx}
end
def tDNewTX : TE := fun _ H Q => nw H (.dT []) Q
theorem ap_dnewT {σ : St} {H : Hp} {Q : VK} : tDNewTX σ H Q = nw H (.dT []) Q := propext Iff.rfl
theorem pe_dnewTX {X : Cx} {pos : Pos} : PE X (.Dict [] [] pos) tDNewTX := fun pins s σ H Q I h => pe_dnewT pins s σ H Q I (nw.go h)
theorem ap_dput {td ty tv : TE} {D : Ends} {σ : St} {H : Hp} : sDPut td ty tv D σ H = tv σ H fun v H1 => td σ H1 fun x H2 => ty σ H2 fun y H3 => ∃ a H4, x = .ref a ∧ DPut H3 a y v H4 ∧ D.nx σ H4 := propext Iff.rfl
theorem ps_dputG {X : Cx} {o i value : Expr} {pos pos' : Pos} {td ty tv : TE} (hu : X.A.units + 1 < cLine) (ho : PE X o td) (hi : PE X i ty) (hv : PE X value tv) (hs : swapsWith value (some (.Subscript o i pos')) pos.line X.env = pure false := by kernel_rfl) :
    PS X (.Assign [.Subscript o i pos'] value pos) (sDPut td ty tv) := ps_dput hu ho hi hv hs
theorem paired_at {α β : Type} {F : α → β → Prop} : ∀ {l₁ : List α} {l₂ : List β}, Paired F l₁ l₂ → ∀ {i : Nat} {x : α}, l₁[i]? = some x → ∃ y, l₂[i]? = some y ∧ F x y
  | _, _, .nil, i, x, e => by simp at e
  | _, _, .cons r t, 0, x, e => by simp at e; subst e; exact ⟨_, rfl, r⟩
  | _, _, .cons r t, i + 1, x, e => paired_at t (by simpa using e)
section
variable {P : Program} {w : World} {K : PySem.W.Frag} {mg : Str → Option Value} {base : Heap}
theorem Fun.okT {x qual : Str} {st : Stmt} {f c : Addr} {fd : FuncData} {N ps : List Str} {k : Nat} {sp : Sp} (F : Fun K x qual st f fd) (hc : fd.code = .ref c) (S : FnScope N ps (defScope st)) (len : ∀ vs H Q E, sp vs H Q E → vs.length = ps.length)
    (hbody : ∀ (A : Around) (outer : List Env) (s : Shared) (H : Hp) (vs : List V) (Q : VK) (E : XK), Room k (A.deeper (envOfC qual (defScope st) s.heap.objs.size f (.ref c))) → sp vs H Q E →
      ∃ t, PSs (cxOf (CX1 P w) P w K mg base N qual (defScope st) f (.ref c) A outer s H E) (defBody st) t ∧ t { nx := fun _ H' => Q .non H', rt := Q } (start N vs) H) : FnOk P w K mg base (CX1 P w) (k + 1) f fd ps sp := by
  obtain ⟨oc, od, kV, doc, pm, an, cdv, ct, osl, rfl, lk, hcd⟩ := F.ex
  have e : cdv = .ref c := hc
  subst e
  exact fn_of lk hcd S len fun A outer s H vs Q E hr hsp => hbody A outer s H vs Q E hr hsp
end
end L2

namespace L2
open PySem PySem.Spec PyProof.Rows
section
variable {prog : Program} {w : World} {A : Around} {E : Value → Shared → Prop} {s : Shared}
end
section
variable {prog : Program} {w : World} {A : Around} {E : Value → Shared → Prop} {s : Shared}
end
section
variable {α : Type}
theorem bind0 {p : List α → Prop} (h : p []) (us : List α) (e : us.length = 0) : p us := by
  cases us with
  | nil => exact h
  | cons _ _ => cases e
theorem bind1 {p : List α → Prop} (h : ∀ a, p [a]) (us : List α) (e : us.length = 1) : p us := by
  cases us with
  | nil => cases e
  | cons a r => exact bind0 (p := fun r => p (a :: r)) (h a) r (Nat.succ.inj e)
theorem bind2 {p : List α → Prop} (h : ∀ a b, p [a, b]) (us : List α) (e : us.length = 2) : p us := by
  cases us with
  | nil => cases e
  | cons a r => exact bind1 (p := fun r => p (a :: r)) (h a) r (Nat.succ.inj e)
theorem bind3 {p : List α → Prop} (h : ∀ a b c, p [a, b, c]) (us : List α) (e : us.length = 3) : p us := by
  cases us with
  | nil => cases e
  | cons a r => exact bind2 (p := fun r => p (a :: r)) (h a) r (Nat.succ.inj e)
theorem bind4 {p : List α → Prop} (h : ∀ a b c d, p [a, b, c, d]) (us : List α) (e : us.length = 4) : p us := by
  cases us with
  | nil => cases e
  | cons a r => exact bind3 (p := fun r => p (a :: r)) (h a) r (Nat.succ.inj e)
theorem bind5 {p : List α → Prop} (h : ∀ a b c d f, p [a, b, c, d, f]) (us : List α) (e : us.length = 5) : p us := by
  cases us with
  | nil => cases e
  | cons a r => exact bind4 (p := fun r => p (a :: r)) (h a) r (Nat.succ.inj e)
theorem bind6 {p : List α → Prop} (h : ∀ a b c d f g, p [a, b, c, d, f, g]) (us : List α) (e : us.length = 6) : p us := by
  cases us with
  | nil => cases e
  | cons a r => exact bind5 (p := fun r => p (a :: r)) (h a) r (Nat.succ.inj e)
end
end L2

namespace L2
open PySem PySem.Spec PyProof.Rows
end L2

namespace L2
open PySem PySem.Spec PyProof.Rows
theorem Room.hu9 {k : Nat} {A : Around} (r : Room k A) : A.units + 9 < cLine := by have := r.un; omega
theorem RoomN.hu9 {k : Nat} {A : Around} (r : RoomN k A) : A.units + 9 < cLine := by have := r.un; omega
inductive EqR (K : PySem.W.Frag) (H : Hp) : Nat → V → V → Bool → Prop
  | same {n : Nat} {x : V} (h : leafV x = true) : EqR K H n x x true
  | flat {n : Nat} {x y : V} (h1 : flatV x = true) (h2 : flatV y = true) : EqR K H n x y (eqV x y)
  | lst {n : Nat} {p q : Addr} {xs ys : List V} (e : Nat → Bool) (hne : p ≠ q) (h1 : SqL K H p xs) (h2 : SqL K H q ys) (hl : xs.length = ys.length) (h : ∀ (i : Nat) x y, xs[i]? = some x → ys[i]? = some y → EqR K H n x y (e i)) : EqR K H (n + 1) (.ref p) (.ref q) ((List.range xs.length).all e)
  | tup {n : Nat} {p q : Addr} {xs ys : List V} (e : Nat → Bool) (hne : p ≠ q) (h1 : SqT K H p xs) (h2 : SqT K H q ys) (h : ∀ (i : Nat) x y, xs[i]? = some x → ys[i]? = some y → EqR K H n x y (e i)) : EqR K H (n + 1) (.ref p) (.ref q) ((List.range (min xs.length ys.length)).all e && xs.length == ys.length)
theorem EqR.at {X : Cx} {pins : List (Addr × Obj)} {s : Shared} {σ : St} {H : Hp} (I : Inv X pins σ H s) {n : Nat} {x y : V} {b : Bool} (h : EqR X.K H n x y b) : ∀ {A : Around} {u v : Value}, A.units + n < cLine → RelV x u → RelV y v → SeqAt.EqAt A s u v b := by
  induction h with
  | same h => intro A u v _ ru rv; exact eqAt_leaf ru rv h
  | flat h1 h2 => intro A u v _ ru rv; exact eqAt_V ru rv h1 h2
  | @lst n p q xs ys e hne h1 h2 hl _ ih =>
    intro A u v hu ru rv
    cases ru; cases rv
    obtain ⟨us, r1, p1, _⟩ := I.list h1
    obtain ⟨vs, r2, p2, _⟩ := I.list h2
    have l1 := r1.length
    have l2 := r2.length
    have := SeqAt.RcAt.lists (A := A) (s := s) (e := e) p1.isList p2.isList (by simp only [List.size_toArray]; omega) (by omega) fun j j1 j2 => by
      obtain ⟨x, ex, rx⟩ := getD_vals r1 j1
      obtain ⟨y, ey, ry⟩ := getD_vals r2 j2
      exact ih j x y ex ey (show A.units + 1 + n < cLine by omega) rx ry
    rw [List.size_toArray, ← l1] at this
    exact SeqAt.EqAt.of_refs hne this
  | @tup n p q xs ys e hne h1 h2 _ ih =>
    intro A u v hu ru rv
    cases ru; cases rv
    obtain ⟨us, r1, p1, _⟩ := I.tuple h1
    obtain ⟨vs, r2, p2, _⟩ := I.tuple h2
    have l1 := r1.length
    have l2 := r2.length
    have := SeqAt.RcAt.tuples (A := A) (s := s) (e := e) p1 p2 (by omega) fun j j1 j2 => by
      obtain ⟨x, ex, rx⟩ := getD_vals r1 j1
      obtain ⟨y, ey, ry⟩ := getD_vals r2 j2
      exact ih j x y ex ey (show A.units + 1 + n < cLine by omega) rx ry
    rw [List.size_toArray, List.size_toArray, ← l1, ← l2] at this
    exact SeqAt.EqAt.of_refs hne this
def RcR (K : PySem.W.Frag) (H : Hp) (n : Nat) (x y : V) (b : Bool) : Prop := ∃ p q, x = .ref p ∧ y = .ref q ∧
  ((∃ xs ys, SqL K H p xs ∧ SqL K H q ys ∧ ((xs.length ≠ ys.length ∧ b = false) ∨ (xs.length = ys.length ∧ ∃ e : Nat → Bool, (∀ (i : Nat) x y, xs[i]? = some x → ys[i]? = some y → EqR K H n x y (e i)) ∧ b = (List.range xs.length).all e))) ∨
   ∃ xs ys, SqT K H p xs ∧ SqT K H q ys ∧ ∃ e : Nat → Bool, (∀ (i : Nat) x y, xs[i]? = some x → ys[i]? = some y → EqR K H n x y (e i)) ∧ b = ((List.range (min xs.length ys.length)).all e && xs.length == ys.length))
def rNeQ (K : PySem.W.Frag) : R2 := fun x y H Q => ∃ n b, n ≤ 6 ∧ RcR K H n x y b ∧ Q (.bl (!b)) H
theorem ev_rNeQ {K : PySem.W.Frag} {x y : V} {H : Hp} {Q : VK} : rNeQ K x y H Q = (∃ n b, n ≤ 6 ∧ RcR K H n x y b ∧ Q (.bl (!b)) H) := propext Iff.rfl
section
variable {X : Cx}
theorem op_neQ {K : PySem.W.Frag} (hK : X.K = K) (hu : X.A.units + 9 < cLine) : OpR X (compareOp .NotEq) (rNeQ K) := by
  subst hK
  intro pins s σ H x y v u Q I rx ry h
  obtain ⟨n, b, hn, ⟨p, q, rfl, rfl, h⟩, k⟩ := h
  cases rx; cases ry
  rcases h with ⟨xs, ys, h1, h2, h⟩ | ⟨xs, ys, h1, h2, e, h, rfl⟩
  · obtain ⟨us, r1, p1, _⟩ := I.list h1
    obtain ⟨vs, r2, p2, _⟩ := I.list h2
    have l1 := r1.length
    have l2 := r2.length
    rcases h with ⟨hl, rfl⟩ | ⟨hl, e, h, rfl⟩
    · exact SeqAt.RcNeAt.lists_lengths p1.isList p2.isList (by simp only [List.size_toArray]; simpa using (by omega : us.length ≠ vs.length)) (by omega) _ _ _ _ ⟨.bl _, H, I, rfl, k⟩
    · refine SeqAt.RcNeAt.lists (e := e) p1.isList p2.isList (by simp only [List.size_toArray]; omega) (by omega) (fun j j1 j2 => ?_) _ _ _ _ ⟨.bl _, H, I, rfl, ?_⟩
      · obtain ⟨x, ex, rx⟩ := getD_vals r1 j1
        obtain ⟨y, ey, ry⟩ := getD_vals r2 j2
        exact (h j x y ex ey).at I (show X.A.units + 1 + n < cLine by omega) rx ry
      · rw [List.size_toArray, ← l1]; exact k
  · obtain ⟨us, r1, p1, _⟩ := I.tuple h1
    obtain ⟨vs, r2, p2, _⟩ := I.tuple h2
    have l1 := r1.length
    have l2 := r2.length
    refine SeqAt.RcNeAt.tuples (e := e) p1 p2 (by omega) (fun j j1 j2 => ?_) _ _ _ _ ⟨.bl _, H, I, rfl, ?_⟩
    · obtain ⟨x, ex, rx⟩ := getD_vals r1 j1
      obtain ⟨y, ey, ry⟩ := getD_vals r2 j2
      exact (h j x y ex ey).at I (show X.A.units + 1 + n < cLine by omega) rx ry
    · rw [List.size_toArray, List.size_toArray, ← l1, ← l2]; exact k
end
def refP (e : V → Bool) : Value → Bool
  | .ref a => e (.ref a)
  | _ => false
theorem vals_any {xs : List V} {us : List Value} (r : Vals xs us) (e : V → Bool) (h : ∀ v ∈ xs, ∃ a, v = .ref a) : us.any (refP e) = xs.any e ∧ us.countP (refP e) = xs.countP e := by
  induction r with
  | nil => exact ⟨rfl, rfl⟩
  | @cons x u xs us r1 r2 ih =>
    obtain ⟨a, rfl⟩ := h x List.mem_cons_self
    cases r1
    have := ih fun v hv => h v (List.mem_cons_of_mem _ hv)
    rw [List.any_cons, List.any_cons, List.countP_cons, List.countP_cons, this.1, this.2]
    exact ⟨rfl, rfl⟩
def InR (K : PySem.W.Frag) (H : Hp) (x : V) (p : Addr) (xs : List V) (e : V → Bool) : Prop := ∃ n, n ≤ 6 ∧ SqL K H p xs ∧ (∀ v ∈ xs, ∃ a, v = .ref a) ∧ ∀ v ∈ xs, EqR K H n v x (e v)
section
variable {X : Cx}
theorem InR.each {pins : List (Addr × Obj)} {s : Shared} {σ : St} {H : Hp} (I : Inv X pins σ H s) (hu : X.A.units + 9 < cLine) {x : V} {p : Addr} {xs : List V} {e : V → Bool} (h : InR X.K H x p xs e) {u : Value} (ru : RelV x u) :
    ∃ its, Vals xs its ∧ s.heap.IsList p its.toArray ∧ (∀ y, y ∈ its.toArray → SeqAt.EqAt X.A.in1 s y u (refP e y)) ∧ its.any (refP e) = xs.any e ∧ its.countP (refP e) = xs.countP e := by
  obtain ⟨n, hn, h1, h2, h3⟩ := h
  obtain ⟨its, r, pl, _⟩ := I.list h1
  obtain ⟨a1, a2⟩ := vals_any r e h2
  refine ⟨its, r, pl.isList, fun y hy => ?_, a1, a2⟩
  obtain ⟨j, hj, rfl⟩ := Array.getElem_of_mem hy
  obtain ⟨v, ev, rv⟩ := getD_vals r hj
  have hv := List.mem_of_getElem? ev
  obtain ⟨a, rfl⟩ := h2 v hv
  have e1 := (h3 _ hv).at I (A := X.A.in1) (show X.A.units + 1 + n < cLine by omega) rv ru
  rw [show its.toArray[j] = Value.ref a from rv] at e1 ⊢
  exact e1
end
theorem all_strs (us vs : List Str) (h : us.length = vs.length) : ((List.range us.length).all fun i => eqV ((us.map V.str).getD i .non) ((vs.map V.str).getD i .non)) = decide (us = vs) := by
  rw [Bool.eq_iff_iff, List.all_eq_true, decide_eq_true_eq]
  constructor
  · intro k
    apply List.ext_getElem h
    intro i h1 h2
    have := k i (List.mem_range.mpr h1)
    rw [List.getD_eq_getElem?_getD, List.getD_eq_getElem?_getD, List.getElem?_map, List.getElem?_map, List.getElem?_eq_getElem h1, List.getElem?_eq_getElem h2] at this
    have this' : (us[i] == vs[i]) = true := this
    exact eq_of_beq this'
  · rintro rfl i hi
    have h1 := List.mem_range.mp hi
    rw [List.getD_eq_getElem?_getD, List.getElem?_map, List.getElem?_eq_getElem h1]
    show (us[i] == us[i]) = true
    simp
theorem min_self_all (us vs : List Str) : (((List.range (min (us.map V.str).length (vs.map V.str).length)).all fun i => eqV ((us.map V.str).getD i .non) ((vs.map V.str).getD i .non)) && (us.map V.str).length == (vs.map V.str).length) = decide (us = vs) := by
  rw [List.length_map, List.length_map]
  by_cases h : us.length = vs.length
  · rw [h, Nat.min_self, beq_self_eq_true, Bool.and_true, ← h, all_strs us vs h]
  · rw [show (us.length == vs.length) = false from by simpa using h, Bool.and_false, eq_comm, decide_eq_false_iff_not]
    exact fun e => h (by rw [e])
theorem strs_each {K : PySem.W.Frag} {H : Hp} {n : Nat} (us vs : List Str) : ∀ (i : Nat) x y, (us.map V.str)[i]? = some x → (vs.map V.str)[i]? = some y → EqR K H n x y (eqV ((us.map V.str).getD i .non) ((vs.map V.str).getD i .non)) := fun i x y e1 e2 => by
  rw [List.getD_eq_getElem?_getD, List.getD_eq_getElem?_getD, e1, e2]
  have f : ∀ {ws : List Str} {z : V}, (ws.map V.str)[i]? = some z → flatV z = true := fun {ws z} e => by
    obtain ⟨w, _, rfl⟩ := List.mem_map.mp (List.mem_of_getElem? e); rfl
  exact .flat (f e1) (f e2)
theorem rc_strs {K : PySem.W.Frag} {H : Hp} {p q : Addr} {us vs : List Str} (h1 : SqT K H p (us.map V.str)) (h2 : SqT K H q (vs.map V.str)) : RcR K H 0 (.ref p) (.ref q) (decide (us = vs)) :=
  ⟨p, q, rfl, rfl, .inr ⟨_, _, h1, h2, _, strs_each us vs, (min_self_all us vs).symm⟩⟩
theorem eq_strs {K : PySem.W.Frag} {H : Hp} {p q : Addr} {us vs : List Str} (h1 : SqT K H p (us.map V.str)) (h2 : SqT K H q (vs.map V.str)) (hs : p = q → us = vs) : EqR K H 1 (.ref p) (.ref q) (decide (us = vs)) := by
  by_cases e : p = q
  · have := hs e
    subst e this
    rw [decide_eq_true rfl]; exact .same rfl
  · rw [← min_self_all us vs]
    exact .tup _ e h1 h2 (strs_each us vs)
end L2

namespace L2
open PySem PySem.Spec PyProof.Rows
section
variable {X : Cx}
end
section
variable {prog : Program} {w : World} {A : Around} {E : Value → Shared → Prop} {s : Shared}
end
section
variable {X : Cx}
end
end L2

namespace L2
open PySem PySem.Spec PyProof.Rows
structure FunD (K : PySem.W.Frag) (x qual : Str) (st : Stmt) (f : Addr) (fd : FuncData) : Prop where
  ex : ∃ (oc : Value) (od : Option Addr) (dV kV doc pm : Value) (an : Option Addr) (cdv ct : Value) (osl : Array (Option Value)),
    fd = PySem.W.fnOf x qual (defArgs st) (defBody st) (defScope st) dV kV doc pm an cdv ct ∧ K.lookup f = some ⟨oc, od, .func fd, osl⟩ ∧ PySem.W.codeIn K cdv qual = true
  kp : PySem.W.keepIn K (.ref f) = true
section
variable {P : Program} {w : World} {K : PySem.W.Frag} {mg : Str → Option Value} {base : Heap}
theorem funD_mk {x qual : Str} {st : Stmt} {f : Addr} {oc : Value} {od an : Option Addr} {osl : Array (Option Value)} {dV kV doc pm cdv ct : Value} (l : K.lookup f = some ⟨oc, od, .func (PySem.W.fnOf x qual (defArgs st) (defBody st) (defScope st) dV kV doc pm an cdv ct), osl⟩)
    (c : PySem.W.codeIn K cdv qual = true) (k : PySem.W.keepIn K (.ref f) = true) : FunD K x qual st f (PySem.W.fnOf x qual (defArgs st) (defBody st) (defScope st) dV kV doc pm an cdv ct) := ⟨⟨oc, od, dV, kV, doc, pm, an, cdv, ct, osl, rfl, l, c⟩, k⟩
theorem FunD.okX {x qual : Str} {st : Stmt} {f : Addr} {fd : FuncData} {N ps : List Str} {k : Nat} {sp : Sp} (F : FunD K x qual st f fd) (S : FnScope N ps (defScope st)) (len : ∀ vs H Q E, sp vs H Q E → vs.length = ps.length)
    (hbody : ∀ (cdv : Value) (A : Around) (outer : List Env) (s : Shared) (H : Hp) (vs : List V) (Q : VK) (E : XK), Room k (A.deeper (envOfC qual (defScope st) s.heap.objs.size f cdv)) → sp vs H Q E →
      ∃ t, PSs (cxOf (CX1 P w) P w K mg base N qual (defScope st) f cdv A outer s H E) (defBody st) t ∧ t { nx := fun _ H' => Q .non H', rt := Q } (start N vs) H) : FnOk P w K mg base (CX1 P w) (k + 1) f fd ps sp := by
  obtain ⟨oc, od, dV, kV, doc, pm, an, cdv, ct, osl, rfl, lk, hcd⟩ := F.ex
  exact fn_of lk hcd S len fun A outer s H vs Q E hr hsp => hbody cdv A outer s H vs Q E hr hsp
theorem FunD.okT {x qual : Str} {st : Stmt} {f c : Addr} {fd : FuncData} {N ps : List Str} {k : Nat} {sp : Sp} (F : FunD K x qual st f fd) (hc : fd.code = .ref c) (S : FnScope N ps (defScope st)) (len : ∀ vs H Q E, sp vs H Q E → vs.length = ps.length)
    (hbody : ∀ (A : Around) (outer : List Env) (s : Shared) (H : Hp) (vs : List V) (Q : VK) (E : XK), Room k (A.deeper (envOfC qual (defScope st) s.heap.objs.size f (.ref c))) → sp vs H Q E →
      ∃ t, PSs (cxOf (CX1 P w) P w K mg base N qual (defScope st) f (.ref c) A outer s H E) (defBody st) t ∧ t { nx := fun _ H' => Q .non H', rt := Q } (start N vs) H) : FnOk P w K mg base (CX1 P w) (k + 1) f fd ps sp := by
  obtain ⟨oc, od, dV, kV, doc, pm, an, cdv, ct, osl, rfl, lk, hcd⟩ := F.ex
  have e : cdv = .ref c := hc
  subst e
  exact fn_of lk hcd S len fun A outer s H vs Q E hr hsp => hbody A outer s H vs Q E hr hsp
end
structure MtdD (P : Program) (w : World) (K : PySem.W.Frag) (mg : Str → Option Value) (base : Heap) (CX : CXT) (C : Addr) (m : Str) (k : Nat) (ps : List Str) (sp : Sp) : Prop where
  ex : ∃ (f : Addr) (fd : FuncData), FnOk P w K mg base CX k f fd ps sp ∧ Meth K C m f ∧ Binds K fd ps [.none]
  cl : Cls K C
def spD (sp : Sp) : Sp := fun vs H Q E => sp (vs ++ [.non]) H Q E
section
variable {X : Cx} {CX : CXT} {E : St → XK}
theorem pe_methD {pl : Sem Bool} {C : Addr} {m : Str} {k : Nat} {ps : List Str} {sp : Sp} {o e : Expr} {es : List Expr} {ta : TE} {t : TA} {apos pos : Pos} (M : MtdD X.prog X.w X.K X.mg X.base CX C m k ps sp) (hx : Passes CX X E) (hr : Room k X.A) (he : PE X o ta) (ha : PA X (e :: es) t)
    (hs : noStars (e :: es) = true := by kernel_rfl)
    (ht : eval (.Call (.Attribute o m apos) (e :: es) [] pos) X.env = (do
      let ov ← eval o X.env
      standAt apos.atName
      let (f, first) ← holding [ov] (getMethod ov m pl)
      callWith pos f first (backTo pos (starEach (e :: es) X.env)) (backToKw pos (keywordEach [] X.env))) := by rfl) :
    PE X (.Call (.Attribute o m apos) (e :: es) [] pos) (tMethX C m (spD sp) E ta t) := by
  obtain ⟨f, fd, F, hm, hb⟩ := M.ex
  intro pins s σ H Q I h
  refine pe_meth (ta := up ta) (t := t) he.up M.cl hm F hr hb (.cons (show RelV .non .none from rfl) .nil) hx ha (starEach_cons (noStars_tail hs).1) (backTo_any (noStars_tail hs).2) ht pins s σ H Q I ⟨_, h, fun x H1 q => ?_⟩
  cases x with
  | ref a =>
    obtain ⟨dx, fs, h1, h2, h3⟩ := q
    exact ⟨a, dx, fs, rfl, h1, h2, h3⟩
  | _ => exact False.elim q
end
section
variable {X : Cx} {pins : List (Addr × Obj)} {σ : St} {H : Hp} {s : Shared}
abbrev lamOb (q : Str) (params : Arguments) (body : Expr) (scope : Scope) (cl : List (Str × Addr)) (pm cd ctv : Value) : Obj :=
  { cls := .type "function", data := .func (PySem.W.kla_fn "<lambda>" q params body scope cl pm cd ctv) }
theorem lam_makeT {A : Around} {E : Value → Shared → Prop} {Q : Value → Shared → Prop} {P c : Addr} {q : Str} {params : Arguments} {body : Expr} {scope : Scope} {lpos : Pos} {cl : List (Str × Addr)} (I : Inv X pins σ H s) (e : H P = some (tabO q))
    (hcd : X.env.code = .ref c) (hC : PySem.W.codeHdIn X.K c P = true) (hq : X.env.qual ++ "<lambda>" = q) (hd : defaultsOf params X.env = ([], [])) (hcl : clo X.env.cells scope.names [] = some cl)
    (k : ∀ f c' ctv H' s', Inv X pins σ H' s' → Same H H' → H f = none → H' f = some (.frz (lamOb q params body scope cl ((X.mg "__name__").getD .none) (.ref c') ctv) (.own P)) → CodAt H' P q c' → Q (.ref f) s') :
    wpAny (model X.prog X.w) A (eval (.Lambda params body scope lpos) X.env) Q E s := by
  refine PySem.W.kla_eval hd ?_
  rw [hq]
  have C := PySem.W.codeHd_of_K I.kIn hC
  obtain ⟨qs, g1, g2, g3⟩ := tab_of I e
  have hg := I.mod.glob.keeps I.bk
  obtain ⟨bm, ob, b1, b2, b3, b4, b5, b6⟩ := I.mod.bmn
  have hgP : mainGlobals ≠ P := fun z => by
    obtain ⟨o, es, ep, w1, w2, _⟩ := I.mod.glob
    have := (I.bs _ _ w1).2
    rw [z, e] at this; cases this
  have hbP : bm ≠ P := fun z => by
    have := (I.bs _ _ b3).2
    rw [z, e] at this; cases this
  have hbG : bm ≠ mainGlobals := fun z => by
    obtain ⟨o, es, ep, w1, w2, _⟩ := I.mod.glob
    rw [z, w1] at b3; cases b3; rw [w2] at b6; cases b6
  have hb : s.heap.BuiltinsAt X.mg P := ⟨bm, ob, b1, b2, hbG, hbP, I.bk _ _ b3, b4, b5, b6⟩
  have hcl' := closureFor_clo hcl
  cases hf : codeAmong lpos qs.toList with
  | none =>
    refine PySem.W.kla_makeFunction (mg := X.mg) hcl' I.ok.glob hg hcd C g1 g2 hf hgP hb fun c' ctv h' tk hx hge hlt hrec htb => ?_
    obtain ⟨c2, oc, vs, t, z1, z2, z3, z4⟩ := id hrec
    cases z1
    have I1 : Inv X pins σ (upd H c' (.frz oc (.own P))) { s with heap := h', toks := tk } := I.tabled (ps := qs) e (fun b o hb z => hx b o hb z) hge htb (by simpa using TriplesOk_snoc _ _ _ _ g2) (fun pos x z => among_snoc qs.toList g2 x (by simpa using z)) g1 z2 z3 z4
    have hn := I.hok.fresh hge
    have kp : ∀ b o, h'.get? b = some o → (h'.push (PySem.W.kla_obj "<lambda>" q params body scope cl ((X.mg "__name__").getD .none) c' ctv)).get? b = some o := fun b o z => Heap.get?_push_of_some _ z
    have hf1 := I1.hok.fresh (Nat.le_refl h'.objs.size)
    have hfH : H h'.objs.size = none := I.hok.fresh (Nat.le_of_lt (Nat.lt_of_le_of_lt hge hlt))
    refine k h'.objs.size c' ctv _ _ (I1.laid (a := h'.objs.size) (o := .frz (lamOb q params body scope cl ((X.mg "__name__").getD .none) (.ref c') ctv) (.own P)) (t' := tk) kp (Nat.le_refl _) ⟨Heap.get?_push_size _ rfl, _, Heap.get?_push_size _ rfl⟩) ((same_upd hn).trans (same_upd hf1)) hfH upd_same ?_
    exact CodAt.same ⟨oc, vs, t, upd_same, z3, z4⟩ (same_upd hf1)
  | some cv =>
    obtain ⟨c', oc, vs, t, a1, a2, a3, a4, a5⟩ := g3 lpos cv hf
    subst a1
    refine PySem.W.kla_makeFunctionHit (mg := X.mg) hcl' I.ok.glob hg hcd C g1 g2 hf hb fun ctv h' tk hx hsz => ?_
    have kp : ∀ b o, s.heap.get? b = some o → (h'.push { cls := .type "function", data := .func (PySem.W.kla_fn "<lambda>" q params body scope cl ((X.mg "__name__").getD .none) (.ref c') ctv) }).get? b = some o := fun b o z => Heap.get?_push_of_some _ (hx b o z)
    have hf1 := I.hok.fresh hsz
    refine k h'.objs.size c' ctv _ _ (I.laid (a := h'.objs.size) (o := .frz (lamOb q params body scope cl ((X.mg "__name__").getD .none) (.ref c') ctv) (.own P)) (t' := tk) kp hsz ⟨Heap.get?_push_size _ rfl, _, Heap.get?_push_size _ rfl⟩) (same_upd hf1) hf1 upd_same ?_
    exact CodAt.same ⟨oc, vs, t, a2, a4, a5⟩ (same_upd hf1)
def BarF (q : Str) (Pt : Addr) (H : Hp) (f : Addr) : Prop := ∃ (pm ctv : Value) (c' : Addr) (params : Arguments) (scope : Scope) (x : Str) (j : Nat) (p : Pos),
  H f = some (.frz (lamOb q params (.Constant (.bool false) j p) scope [] pm (.ref c') ctv) (.own Pt)) ∧ CodAt H Pt q c' ∧
  (∀ u : Value, bindArgs (PySem.W.kla_fn "<lambda>" q params (.Constant (.bool false) j p) scope [] pm (.ref c') ctv) ⟨[u], []⟩ = pure [(x, u)]) ∧
  scope.isCoroutine = false ∧ scope.isGenerator = false ∧ scope.kind = .function ∧ (∀ y ∈ scope.names, y.2 ≠ .cell) ∧ scope.names.lookup x = some .local
theorem BarF.same {q : Str} {Pt f : Addr} {H H' : Hp} (h : BarF q Pt H f) (s : Same H H') : BarF q Pt H' f := by
  obtain ⟨pm, ctv, c', params, scope, x, j, p, h1, h2, h3⟩ := h
  exact ⟨pm, ctv, c', params, scope, x, j, p, s _ _ h1, h2.same s, h3⟩
end
section
variable {X : Cx}
end
def rLenD : List V → Hp → VK → Prop := fun vs H Q => match vs with
  | [.ref a] => ∃ kvs, Rd H a (.dK kvs) ∧ Q (.int kvs.length) H
  | _ => False
theorem call_lenD {X : Cx} : CallR X (.builtin "len") rLenD := by
  intro pins s σ H xs us Q I r h
  match xs, h with
  | [.ref a], h =>
    obtain ⟨kvs, ha, q⟩ := h
    obtain ⟨u, rfl, r2⟩ := vals1 r
    cases r2
    exact d_len I ha fun t s' I' => ⟨.int kvs.length, H, I', ⟨t, rfl⟩, q⟩
section
variable {prog : Program} {w : World} {A : Around} {E : Value → Shared → Prop} {s : Shared}
end
end L2

namespace L2
open PySem PySem.Spec PyProof.Rows
theorem map_erJ {α β : Type} (f : α → β) : ∀ (l : List α) (j : Nat), (l.map f).eraseIdx j = (l.eraseIdx j).map f
  | [], _ => rfl
  | _ :: _, 0 => rfl
  | x :: r, j + 1 => by
    show f x :: (r.map f).eraseIdx j = f x :: (r.eraseIdx j).map f
    rw [map_erJ f r j]
def outK {κ : Type} [DecidableEq κ] (kvs : List (κ × V)) (k : κ) : List (κ × V) := kvs.filter fun q => decide (q.1 ≠ k)
theorem outK_len {κ : Type} [DecidableEq κ] (kvs : List (κ × V)) (k : κ) : (outK kvs k).length ≤ kvs.length := List.length_filter_le _ _
theorem KV.out {kvs : List (Key × V)} {xs : List (Key × Value)} (r : KV kvs xs) (k : Key) : KV (outK kvs k) (without xs k) := by
  induction r with
  | nil => exact .nil
  | @cons a b l₁ l₂ f t ih =>
    obtain ⟨e, rv⟩ := f
    unfold outK without at *
    by_cases h : a.1 = k
    · rw [List.filter_cons_of_neg (by simp [h]), List.filter_cons_of_neg (by simp [← e, h])]; exact ih
    · rw [List.filter_cons_of_pos (by simp [h]), List.filter_cons_of_pos (by simp [← e, h])]; exact .cons ⟨e, rv⟩ ih
def rPopK : V → List V → Hp → VK → Prop := fun x vs H Q => match x, vs with
  | .ref d, [y] => ∃ kvs k v, H d = some (.dK kvs) ∧ y = kV k ∧ valV kvs k = some v ∧ Q v (upd H d (.dK (outK kvs k)))
  | _, _ => False
theorem ev_rPopK {d : Addr} {y : V} {H : Hp} {Q : VK} : rPopK (.ref d) [y] H Q = (∃ kvs k v, H d = some (.dK kvs) ∧ y = kV k ∧ valV kvs k = some v ∧ Q v (upd H d (.dK (outK kvs k)))) := propext Iff.rfl
theorem mt_popK {X : Cx} : MtM X "dict.pop" rPopK := by
  intro pins s σ H x vs v us Q I rx rv h
  match x, vs, h with
  | .ref d, [y], h =>
    obtain ⟨kvs, k, v', hd, rfl, hv, q⟩ := h
    cases rx
    obtain ⟨u1, rfl, ry⟩ := rv.one
    obtain ⟨z, hs, xs, rel, dd⟩ := dk_of I.hok hd
    have hxl : xs.length ≤ sizeLine := by rw [← rel.length]; exact z
    have hT : s.TypeIs (.ref d) "dict" := by obtain ⟨o, _, _, e, ex, _⟩ := dd; exact ⟨o, e, ex.1⟩
    obtain ⟨w2, hw2, rw2⟩ := RelO.some_of (v := v') (o := valueAt xs k) (by rw [← hv]; exact rel.val k)
    have hpart : (keyPart u1).isSome = true := by
      cases k with
      | inl i => obtain ⟨t, rfl⟩ := ry; rfl
      | inr i => obtain ⟨t, rfl⟩ := ry; rfl
    refine call_meetsIn F.slot_dict_pop hT F.entry_dict_pop (F.args_dict_pop_2 _ _) (meets_dict_pop_there (mixKind X.prog X.w) d (kV_is ry) [] (.inl rfl) hpart) ⟨xs, w2, dd, hxl, hw2, fun h' dd' hsb => ?_⟩
    have he : ∃ q, h'.get? d = some q := let ⟨q, _, _, hq, _⟩ := dd'; ⟨q, hq⟩
    exact ⟨v', _, d_write I (by rw [hd]; exact True.intro) hsb he (dk_new (Nat.le_trans (outK_len _ _) z) hs (rel.out k) dd'), rw2, q⟩
section
variable {prog : Program} {w : World} {K : Type} [DecidableEq K] {knd : HeapKind prog w K} {A : Around} {E : Value → Shared → Prop} {s : Shared} {d a : Addr} {xs : List (K × Addr × Value)} {k : K}
def outH (xs : List (K × Addr × Value)) (k : K) : List (K × Addr × Value) := xs.filter fun q => decide (q.1 ≠ k)
theorem erase_out : ∀ {xs : List (K × Addr × Value)} {j : Nat} {x : K × Addr × Value}, (xs.map (·.1)).Nodup → xs[j]? = some x → xs.eraseIdx j = outH xs x.1
  | y :: r, 0, x, hn, h => by
    have e : y = x := by simpa using h
    subst e
    obtain ⟨h1, h2⟩ := List.nodup_cons.mp hn
    show r = outH (y :: r) y.1
    unfold outH
    rw [List.filter_cons_of_neg (by simp)]
    refine (List.filter_eq_self.mpr fun q hq => ?_).symm
    exact decide_eq_true fun e => h1 (by show y.1 ∈ _; rw [← e]; exact List.mem_map_of_mem hq)
  | y :: r, j + 1, x, hn, h => by
    obtain ⟨h1, h2⟩ := List.nodup_cons.mp hn
    have hx : r[j]? = some x := by simpa using h
    show y :: r.eraseIdx j = outH (y :: r) x.1
    unfold outH
    have hne : y.1 ≠ x.1 := fun e => h1 (by show y.1 ∈ _; rw [e]; exact List.mem_map_of_mem (List.mem_of_getElem? hx))
    rw [List.filter_cons_of_pos (by rw [decide_eq_true hne]), erase_out h2 hx]; rfl
theorem pop_heap {Q : Option DictEntry → Shared → Prop} {p : Addr × Value} (hu : knd.room A) (hkey : knd.is s.heap k a) (hm : s.heap.DictOfH knd d xs) (hsz : xs.length ≤ sizeLine) (hp : atKey xs k = some p)
    (h : ∀ e : DictEntry, e.val = p.2 → ∀ h', h'.DictOfH knd d (outH xs k) → Heap.SameBut d s.heap h' → Q (some e) { s with heap := h', toks := s.toks + knd.draws k }) : wpAny (model prog w) A (Builtin.Dict.takeOut d (.ref a)) Q E s := by
  obtain ⟨o, es, ep, g1, g2, g3, g4, g5, g6⟩ := hm
  unfold Builtin.Dict.takeOut
  try with_reducible refine wpAny_holding ?_
  refine wpAny_bind (knd.pyHash hu hkey (wpAny_bind (wpAny_dictFind_heap (s := { s with toks := s.toks + knd.draws k }) hu hkey g1 g3 g4 g5 g6 (fun hno => ?_) fun j p' hj => ?_)))
  · rw [atKey_none_of_get hno] at hp; cases hp
  · have e1 := atKey_of_get g6 hj
    rw [hp] at e1
    cases e1
    have ez := size_of_entries g4
    refine wpAny_bind (wpAny_dictEntries (s := { s with toks := s.toks + knd.draws k }) g1 g3 ?_)
    rw [entry_at g4 j, hj]
    refine wpAny_bind (wpAny_updateDictKeys (hz := by omega) (s := { s with toks := s.toks + knd.draws k }) g1 g3 (wpAny_pure (h _ rfl _ ⟨_, _, ep + 1, Heap.get?_update_self _ g1 (Obj.isFreed_of_dict (Obj.data_mapDictKeys g3 _)), g2.mapDictKeys _, Obj.data_mapDictKeys g3 _, ?_, ?_, ?_⟩ (Heap.SameBut.update ..))))
    · rw [← erase_out g6 hj, ← map_erJ, ← g4]
      obtain ⟨l⟩ := es
      simp
    · intro x hx
      exact knd.keeps (g5 x ((List.mem_filter.mp hx).1)) g1 g3 (Heap.SameBut.update ..)
    · exact List.Nodup.sublist (List.Sublist.map _ List.filter_sublist) g6
theorem meetsH_pop : MeetsIn prog w (Builtin.«dict.pop» ⟨[.ref d, .ref a], []⟩) (fun A R s => knd.room A.in1 ∧ ∃ k xs p, knd.is s.heap k a ∧ s.heap.DictOfH knd d xs ∧ xs.length ≤ sizeLine ∧ atKey xs k = some p ∧
    (∀ h', h'.DictOfH knd d (outH xs k) → Heap.SameBut d s.heap h' → R (.ok (.ret p.2)) { s with heap := h', toks := s.toks + knd.draws k })) :=
  .of_wp fun A R s ⟨hu, k, xs, p, hkey, hm, hz, hp, h⟩ => by
    unfold Builtin.«dict.pop» Builtin.Dict.keyAndDefault
    refine wpAny_bind (wpAny_bind (wpAny_notOrdered_dict hm.typeIs ?_))
    refine show wpAny _ _ (pure (d, Value.ref a, none)) _ _ s from wpAny_pure ?_
    have hm' := hm
    obtain ⟨o, es, ep, g1, g2, g3, g4, g5, g6⟩ := hm'
    refine wpAny_bind (wpAny_dictEntries g1 g3 ?_)
    refine wpAny_bind (wpAny_pure ?_)
    have ne : es.isEmpty = false := by
      cases hx : xs with
      | nil => rw [hx] at hp; cases hp
      | cons x r =>
        have := size_of_entries g4
        rw [hx, List.length_cons] at this
        simp [Array.isEmpty, this]
    rw [ne]
    refine wpAny_bind (pop_heap hu hkey hm hz hp fun e ev h' m' s' => ?_)
    refine wpAny_bind (wpAny_letGo (wpAny_pure ⟨e.val, rfl, by rw [ev]; exact h h' m' s'⟩))
end
theorem KT.out {H : Hp} {kvs : List (List Key × V)} {xs : List (List Key × Addr × Value)} (r : KT H kvs xs) (k : List Key) : KT H (outK kvs k) (outH xs k) := by
  unfold KT at *
  induction r with
  | nil => exact .nil
  | @cons a b l₁ l₂ f t ih =>
    have e : a.1 = b.1 := f.1
    unfold outK outH at *
    by_cases h : a.1 = k
    · rw [List.filter_cons_of_neg (by simp [h]), List.filter_cons_of_neg (by simp [← e, h])]; exact ih
    · rw [List.filter_cons_of_pos (by simp [h]), List.filter_cons_of_pos (by simp [← e, h])]; exact .cons f ih
def rPopT : V → List V → Hp → VK → Prop := fun x vs H Q => match x, vs with
  | .ref d, [.ref b] => ∃ kvs k v, H d = some (.dT kvs) ∧ H b = some (.tup (k.map kV)) ∧ valV kvs k = some v ∧ Q v (upd H d (.dT (outK kvs k)))
  | _, _ => False
theorem ev_rPopT {d b : Addr} {H : Hp} {Q : VK} : rPopT (.ref d) [.ref b] H Q = (∃ kvs k v, H d = some (.dT kvs) ∧ H b = some (.tup (k.map kV)) ∧ valV kvs k = some v ∧ Q v (upd H d (.dT (outK kvs k)))) := propext Iff.rfl
theorem mt_popT {X : Cx} (hu : X.A.units + 1 < cLine) : MtM X "dict.pop" rPopT := by
  intro pins s σ H x vs v us Q I rx rv h
  match x, vs, h with
  | .ref d, [.ref b], h =>
    obtain ⟨kvs, k, v', hd, hb, hv, q⟩ := h
    cases rx
    obtain ⟨u1, rfl, ry⟩ := rv.one
    cases ry
    obtain ⟨z, hs, xs, rel, dd⟩ := dt_of I.hok hd
    have hxl : xs.length ≤ sizeLine := by rw [← Paired.length rel]; exact z
    obtain ⟨w2, hw2, rw2⟩ := RelO.some_of (v := v') (o := (atKey xs k).map (·.2)) (by rw [← hv]; exact rel.val k)
    obtain ⟨p, hp, hp2⟩ := Option.map_eq_some_iff.mp hw2
    refine call_meetsIn F.slot_dict_pop dd.typeIs F.entry_dict_pop (F.args_dict_pop_2 _ _) (meetsH_pop (knd := tupleKind (mixKind X.prog X.w))) ⟨tupleKind_room_in1 hu, k, xs, p, key_of I.hok hb, dd, hxl, hp, fun h' dd' hsb => ?_⟩
    obtain ⟨q', es, ep, e1, e2, e3, e4, _, e5⟩ := dd'
    refine ⟨v', upd H d (.dT (outK kvs k)), d_write I (by rw [hd]; exact True.intro) hsb ⟨q', e1⟩ ⟨Nat.le_trans (outK_len _ _) z, hs, _, (rel.out k).keeps fun c ys ec => ?_, q', es, ep, e1, e2, e3, e4, e5⟩, by rw [hp2]; exact rw2, q⟩
    rw [upd_ne (ne_of ec hd (fun z => nomatch z))]
    exact ec
end L2

namespace L2
open PySem PySem.Spec PyProof.Rows
section
variable {prog : Program} {w : World} {A : Around} {E : Value → Shared → Prop} {s : Shared}
end
section
variable {prog : Program} {w : World} {A : Around} {E : Value → Shared → Prop} {s : Shared}
end
section
variable {X : Cx}
end
end L2

namespace L2
open PySem PySem.Spec PyProof.Rows
def UnX (H H' : Hp) (h h' : Heap) : Prop := ∃ fs, Un fs [] H H' h h'
theorem Un.wider {fs fs' : List Addr} {H H' : Hp} {h h' : Heap} (u : Un fs [] H H' h h') (hs : ∀ b ∈ fs, b ∈ fs') : Un fs' [] H H' h h' where
  keep := fun b o e n hb he => u.keep b o e n (fun z => hb (hs b z)) he
  slot := fun b o e n _ he => u.any e n he
  free := u.free
  there := u.there
  tups := u.tups
  frzs := u.frzs
  tbls := u.tbls
theorem UnX.trans {H H1 H2 : Hp} {h h1 h2 : Heap} (a : UnX H H1 h h1) (b : UnX H1 H2 h1 h2) : UnX H H2 h h2 := by
  obtain ⟨f, a⟩ := a
  obtain ⟨g, b⟩ := b
  exact ⟨f ++ g, (a.wider fun x hx => List.mem_append_left _ hx).trans (b.wider fun x hx => List.mem_append_right _ hx)⟩
def LamAt (H : Hp) (f : Addr) : Prop := ∃ (q : Str) (params : Arguments) (body : Expr) (scope : Scope) (cl : List (Str × Addr)) (pm cd ctv : Value) (u : HO), H f = some (.frz (lamOb q params body scope cl pm cd ctv) u)
theorem LamAt.same {H H' : Hp} {f : Addr} (h : LamAt H f) (s : Same H H') : LamAt H' f := by
  obtain ⟨q, a, b, c, d, e, g, i, u, h⟩ := h
  exact ⟨q, a, b, c, d, e, g, i, u, s _ _ h⟩
theorem LamAt.fn {X : Cx} {pins : List (Addr × Obj)} {σ : St} {H : Hp} {s : Shared} {f : Addr} (I : Inv X pins σ H s) (h : LamAt H f) : PySem.W.FnAt f s.heap := by
  obtain ⟨q, a, b, c, d, e, g, i, u, h⟩ := h
  exact ⟨_, _, _, _, (I.hok f _ h).1⟩
abbrev XF : XK := fun _ _ _ => False
section
variable {P : Program} {w : World} {K : PySem.W.Frag} {mg : Str → Option Value} {base : Heap}
def StepOk (P : Program) (w : World) (K : PySem.W.Frag) (mg : Str → Option Value) (base : Heap) (k n : Nat) (f : Addr) (sp : Sp) (s₀ : Shared) (H₀ : Hp) : Prop :=
  ∀ (A : Around) (outer : List Env) (s : Shared) (H : Hp) (us : List Value) (vs : List V) (Q : VK), Room k A → Env0 P w K mg base A outer s H → UnX H₀ H s₀.heap s.heap → Vals vs us → vs.length = n → sp vs H Q XF →
    codeAny (model P w) A (.call (.ref f) ⟨us, []⟩) (CR (CX1 P w) outer P w H s Q XF) s
theorem StepOk.later {k n : Nat} {f : Addr} {sp : Sp} {s₀ s₁ : Shared} {H₀ H₁ : Hp} (S : StepOk P w K mg base k n f sp s₀ H₀) (u : UnX H₀ H₁ s₀.heap s₁.heap) : StepOk P w K mg base k n f sp s₁ H₁ :=
  fun A outer s H us vs Q hr e0 u2 => S A outer s H us vs Q hr e0 (u.trans u2)
structure FnOkS (P : Program) (w : World) (K : PySem.W.Frag) (mg : Str → Option Value) (base : Heap) (CX : CXT) (k : Nat) (f : Addr) (fd : FuncData) (ps : List Str) (sp : Shared → Sp) : Prop where
  len : ∀ s vs H Q E, sp s vs H Q E → vs.length = ps.length
  run : ∀ (A : Around) (outer : List Env) (s : Shared) (H : Hp) (args : Args) (us : List Value) (vs : List V) (Q : VK) (E : XK), Room k A → Env0 P w K mg base A outer s H → BindsTo s fd args (ps.zip us) → Vals vs us → sp s vs H Q E →
    codeAny (model P w) A (.call (.ref f) args) (CR CX outer P w H s Q E) s
end
theorem fn_ofS {CX : CXT} {P : Program} {w : World} {K : PySem.W.Frag} {mg : Str → Option Value} {base : Heap} {k : Nat} {f : Addr} {name qual : Str} {params : Arguments} {body : List Stmt} {scope : Scope} {dV kV doc pm cdv ct oc : Value} {an od : Option Addr}
    {osl : Array (Option Value)} {N ps : List Str} {sp : Shared → Sp} (lk : K.lookup f = some ⟨oc, od, .func (PySem.W.fnOf name qual params body scope dV kV doc pm an cdv ct), osl⟩) (hcd : PySem.W.codeIn K cdv qual = true) (S : FnScope N ps scope)
    (len : ∀ s vs H Q E, sp s vs H Q E → vs.length = ps.length)
    (hbody : ∀ (A : Around) (outer : List Env) (s : Shared) (H : Hp) (vs : List V) (Q : VK) (E : XK), Room k (A.deeper (envOfC qual scope s.heap.objs.size f cdv)) → sp s vs H Q E →
      ∃ t, PSs (cxOf CX P w K mg base N qual scope f cdv A outer s H E) body t ∧ t { nx := fun _ H' => Q .non H', rt := Q } (start N vs) H) :
    FnOkS P w K mg base CX (k + 1) f (PySem.W.fnOf name qual params body scope dV kV doc pm an cdv ct) ps sp := by
  refine ⟨len, fun A outer s H args us vs Q E hr e0 hb r hsp => ?_⟩
  have hl := len _ _ _ _ _ hsp
  have KX : K.In s.heap := e0.mod.kin.keeps fun b o e => (e0.bs b o e).1
  have lim : s.heap.NoLimit := e0.mod.nolimit.keeps fun b o e => (e0.bs b o e).1
  have hkind : ∀ y ∈ ps.zip us, scope.names.lookup y.1 = some .local ∨ (scope.names.lookup y.1 = some .cell ∧ ((cellsFrom (s.heap.objs.size + 1) scope.names []).lookup y.1).isSome = true) := fun ⟨n, v⟩ hy => by
    rcases S.par n (List.of_mem_zip hy).1 with q | q
    · exact .inl q
    · exact .inr ⟨q, PySem.W.cellsFrom_some _ _ _ (.inl q)⟩
  refine codeAny_call_function hr.depth (KX _ _ lk) rfl S.co S.gen rfl (PySem.W.codeRec_of KX hcd) (hb _ _ _ _ ?_)
  refine wpAny_newFunctionEnv_cells S.kind hkind fun env he s1 x => ?_
  subst he
  refine ⟨lim.keeps x.toInCall.keep, codeAny_func ?_⟩
  obtain ⟨t, ht, hq⟩ := hbody A outer s H vs Q E (hr.deeper _) hsp
  have I : Inv (cxOf CX P w K mg base N qual scope f cdv A outer s H E) [] (start N vs) H s1 := inv_start S hr.hd e0 hl r x
  refine wpAny_mono (ht [] s1 (start N vs) H _ I hq) (fun fl s' hs => ?_) fun e s' hs => hs
  have fin : ∀ {σ' : St} {H' : Hp} {v : V} {u : Value}, Inv (cxOf CX P w K mg base N qual scope f cdv A outer s H E) [] σ' H' s' → RelV v u → Q v H' → CE outer P w H s Q u s' :=
    fun {σ' H' v u} J rv q => ⟨v, H', J.os, J.bare, J.base, J.hok, rv, q⟩
  cases fl with
  | ret u =>
    obtain ⟨v, σ', H', J, rv, q⟩ := hs
    exact fin J rv q
  | next =>
    obtain ⟨σ', H', J, q⟩ := hs
    exact fin (v := V.non) (u := Value.none) J rfl q
  | brk =>
    obtain ⟨_, _, _, q⟩ := hs
    exact False.elim q
  | cont =>
    obtain ⟨_, _, _, q⟩ := hs
    exact False.elim q
def cxLam (P : Program) (w : World) (K : PySem.W.Frag) (mg : Str → Option Value) (base : Heap) (N : List Str) (q : Str) (scope : Scope) (f : Addr) (cd : Value) (cl : List (Str × Addr)) (A : Around) (outer : List Env) (s : Shared) (H : Hp) : Cx where
  prog := P
  w := w
  K := K
  mg := mg
  base := base
  A := A.deeper (PySem.W.envX q scope s.heap.objs.size f cd cl)
  N := N
  s₀ := s
  H₀ := H
  env := PySem.W.envX q scope s.heap.objs.size f cd cl
  outer := outer
  stack := PySem.W.envX q scope s.heap.objs.size f cd cl :: outer
  ex := []
  calm := true
  fn := fun _ => false
  pn := []
  xe := fun _ _ => False
theorem lookup_nd {x : Str} {u : Value} : ∀ {l : List (Str × Value)}, (l.map (·.1)).Nodup → (x, u) ∈ l → l.lookup x = some u
  | [], _, h => by cases h
  | (y, v) :: l, hn, h => by
    rw [List.lookup_cons]
    rcases List.mem_cons.mp h with e | e
    · cases e
      simp
    · have hne : x ≠ y := fun z => (List.nodup_cons.mp hn).1 (by rw [← z]; exact List.mem_map.mpr ⟨_, e, rfl⟩)
      rw [show (x == y) = false by simpa using hne]
      exact lookup_nd (List.nodup_cons.mp hn).2 e
theorem IsCell.on {H H' : Hp} {h h' : Heap} {c : Addr} {v : Option Value} (u : UnX H H' h h') (n : H c = none) (e : h.IsCell c v) : h'.IsCell c v := by
  obtain ⟨fs, u⟩ := u
  obtain ⟨o, e1, e2⟩ := e
  obtain ⟨sl, z⟩ := u.any e1 n (by simp)
  exact ⟨_, z, e2⟩
def Caps (X : Cx) (scope : Scope) (fr : List Str) (js : List Nat) : Prop := Paired (fun (x : Str) (j : Nat) => X.N[j]? = some x ∧ Vis X.env.scope x ∧ scope.names.lookup x = some .free ∧ (x, NameKind.free) ∈ scope.names ∧ X.env.kindOf x = some .cell) fr js
abbrev capSt (js : List Nat) (σ : St) : St := js.map fun j => σ[j]?.join
theorem caps_at {X : Cx} {scope : Scope} : ∀ {fr : List Str} {js : List Nat}, Caps X scope fr js → ∀ {i : Nat} {x : Str}, fr[i]? = some x → ∃ j, js[i]? = some j ∧ X.N[j]? = some x ∧ Vis X.env.scope x ∧ scope.names.lookup x = some .free ∧ (x, NameKind.free) ∈ scope.names ∧ X.env.kindOf x = some .cell
  | _, _, .nil, i, x, e => by simp at e
  | _, _, .cons h r, 0, x, e => by simp at e; subst e; exact ⟨_, rfl, h⟩
  | _, _, .cons h r, i + 1, x, e => caps_at r (by simpa using e)
theorem caps_len {X : Cx} {scope : Scope} : ∀ {fr : List Str} {js : List Nat}, Caps X scope fr js → fr.length = js.length
  | _, _, .nil => rfl
  | _, _, .cons h r => congrArg (· + 1) (caps_len r)
theorem lam_step {X : Cx} {pins : List (Addr × Obj)} {σ : St} {H : Hp} {s : Shared} {ps fr : List Str} {js : List Nat} {q : Str} {params : Arguments} {body : Expr} {scope : Scope} {cl : List (Str × Addr)} {pm ctv : Value} {c' Pt f : Addr} {te : TE} {k : Nat}
    (I : Inv X pins σ H s) (hf : H f = some (.frz (lamOb q params body scope cl pm (.ref c') ctv) (.own Pt))) (hc : CodAt H Pt q c') (hcl : clo X.env.cells scope.names [] = some cl)
    (hbind : ∀ us : List Value, us.length = ps.length → bindArgs (PySem.W.kla_fn "<lambda>" q params body scope cl pm (.ref c') ctv) ⟨us, []⟩ = pure (ps.zip us))
    (hco : scope.isCoroutine = false) (hgen : scope.isGenerator = false) (hk : scope.kind = .function) (hcell : ∀ y ∈ scope.names, y.2 ≠ .cell) (hps : ∀ x ∈ ps, scope.names.lookup x = some .local) (hnd : ps.Nodup) (hcap : Caps X scope fr js)
    (hbody : ∀ (A : Around) (outer : List Env) (s : Shared) (H : Hp), Room k (A.deeper (PySem.W.envX q scope s.heap.objs.size f (.ref c') cl)) → PE (cxLam X.prog X.w X.K X.mg X.base (ps ++ fr) q scope f (.ref c') cl A outer s H) body te) :
    StepOk X.prog X.w X.K X.mg X.base (k + 1) ps.length f (fun vs H Q _ => te (vs.map some ++ capSt js σ) H Q) s H := by
  intro A outer s' H' us vs Q hr e0 u r hl hq
  have hf' : H' f = some (.frz (lamOb q params body scope cl pm (.ref c') ctv) (.own Pt)) := by obtain ⟨fs, u⟩ := u; exact u.frzs _ _ _ hf
  have lus : us.length = ps.length := by rw [← r.length]; exact hl
  have hrec : s'.heap.CodeRec (.ref c') q := by
    obtain ⟨oc, vs', t, h1, h2, h3⟩ := hc
    obtain ⟨fs, u⟩ := u
    exact ⟨c', oc, vs', t, rfl, (e0.hok c' _ (u.frzs _ _ _ h1)).1, h2, h3⟩
  have sub := clo_sub scope.names [] cl hcl (fun x c e => by cases e)
  have cells : ∀ x c, cl.lookup x = some c → (∀ v, s.heap.IsCell c v → s'.heap.IsCell c v) ∧ H' c = none := fun x c e => by
    have n := I.freeC x c (sub x c e)
    obtain ⟨v, o, o1, o2⟩ := I.cell x c (sub x c e)
    refine ⟨fun v hv => IsCell.on u n hv, ?_⟩
    obtain ⟨fs, u⟩ := u
    exact u.free c o o1 n (by simp)
  refine PySem.W.kla_callFunE hr.depth (e0.hok f _ hf').1 rfl hco hgen rfl hrec ?_
  rw [hbind us lus]
  refine wpAny_pure (wpAny_newFunctionEnv hcell (fun y hy => ?_) (fun h₁ hns hsb => ⟨?_, ?_⟩) hk)
  · exact hps _ (List.of_mem_zip hy).1
  · exact (e0.mod.nolimit.keeps fun b o e => (e0.bs b o e).1).fresh _ hsb
  show codeAny _ _ (.expr _ (PySem.W.envX q scope s'.heap.objs.size f (.ref c') cl)) _ _
  have k1 : ∀ b o, s'.heap.get? b = some o → h₁.get? b = some o := fun b o z => hsb.extBut b o (Nat.ne_of_lt (Heap.lt_size z)) (Heap.get?_push_of_some _ z)
  have noA : ∀ b : Addr, b ∉ (cxLam X.prog X.w X.K X.mg X.base (ps ++ fr) q scope f (.ref c') cl A outer s' H').ex := fun b z => absurd (show b ∈ ([] : List Addr) from z) (by simp)
  have cl1 : ∀ c v, s'.heap.IsCell c v → h₁.IsCell c v := fun c v ⟨o, z1, z2⟩ => ⟨o, k1 _ _ z1, z2⟩
  have J : Inv (cxLam X.prog X.w X.K X.mg X.base (ps ++ fr) q scope f (.ref c') cl A outer s' H') [] (vs.map some ++ capSt js σ) H' { heap := h₁, gens := s'.gens, drawn := s'.drawn, toks := s'.toks + (ps.zip us).length, os := s'.os } := by
    refine ⟨⟨e0.mod, hk, rfl, rfl, Nat.le_refl _, fun y z c h1 h2 => I.ok.inj y z c (sub y c h1) (sub z c h2), fun y hy => ?_, fun y c z h => ?_, fun _ => hr.hd, Around.frames_deeper e0.frames, .inr ⟨rfl, rfl⟩, fun b z => absurd z (noA b), e0.bs, e0.bsz, fun b _ _ => noA b, fun b z => absurd z (noA b), e0.funs, e0.frf⟩,
      rfl, e0.bare, Un.kept k1, ⟨_, hns, fun i y v h1 h2 h3 => ?_⟩, fun y c h => ?_, e0.hok.fresh (Nat.le_refl _), fun y c h => (cells y c h).2, fun p hp => absurd (show p ∈ ([] : List (Addr × Obj)) from hp) (by simp), e0.hok.kept k1, ?_⟩
    · have hy : scope.names.lookup y = some .cell ∨ scope.names.lookup y = some .free := hy
      rcases hy with hy | hy
      · exact absurd rfl (hcell _ (PySem.mem_of_lookup hy))
      · exact clo_has scope.names [] cl hcl y (PySem.mem_of_lookup hy)
    · cases z
    · have h1' : (ps ++ fr)[i]? = some y := h1
      by_cases hi : i < ps.length
      · rw [List.getElem?_append_left hi] at h1'
        rw [List.getElem?_append_left (by rw [List.length_map]; omega), List.getElem?_map] at h2
        cases ev : vs[i]? with
        | none => rw [ev] at h2; cases h2
        | some a =>
          rw [ev] at h2
          cases h2
          obtain ⟨u', hu', rv⟩ := r.get ev
          refine ⟨u', rv, .inl ⟨hps y (List.mem_of_getElem? h1'), ?_⟩⟩
          have hz : (ps.zip us)[i]? = some (y, u') := by rw [List.getElem?_zip_eq_some]; exact ⟨h1', hu'⟩
          refine lookup_nd ?_ (List.mem_reverse.mpr (List.mem_of_getElem? hz))
          rw [List.map_reverse]
          refine List.pairwise_reverse.mpr ?_
          rw [show (fun x : Str × Value => x.1) = Prod.fst from rfl, List.map_fst_zip (by omega)]
          exact hnd.imp fun h => h.symm
      · rw [List.getElem?_append_right (by omega)] at h1'
        rw [List.getElem?_append_right (by rw [List.length_map]; omega), List.length_map, hl] at h2
        obtain ⟨j, hj, hN, hv, hfree, hmem, hkd⟩ := caps_at hcap h1'
        unfold capSt at h2
        rw [List.getElem?_map, hj] at h2
        have h2' : σ[j]? = some (some v) := by
          have h2 : some (σ[j]?.join) = some (some v) := h2
          cases es : σ[j]? with
          | none => rw [es] at h2; cases h2
          | some o => rw [es] at h2; cases o with
            | none => cases h2
            | some v' => cases h2; rfl
        obtain ⟨m, _, hlk⟩ := I.loc
        obtain ⟨u', rv, lk⟩ := hlk j y v hN h2' hv
        refine ⟨u', rv, .inr ⟨.inr hfree, ?_⟩⟩
        obtain ⟨c, hcy⟩ := clo_has scope.names [] cl hcl y hmem
        refine ⟨c, hcy, ?_⟩
        rcases lk with ⟨z, _⟩ | ⟨_, c2, z1, z2⟩
        · rw [hkd] at z; cases z
        · rw [sub y c hcy] at z1
          cases z1
          exact cl1 _ _ ((cells y c hcy).1 _ z2)
    · obtain ⟨v, hv⟩ := I.cell y c (sub y c h)
      exact ⟨v, cl1 _ _ ((cells y c h).1 _ hv)⟩
    · show _ = (ps ++ fr).length
      rw [List.length_append, List.length_map, List.length_append, hl, List.length_map, caps_len hcap]
  refine PySem.W.kla_codeExpr (wpAny_mono (hbody A outer s' H' (hr.deeper _) [] _ _ _ Q J hq) (fun u2 s2 h2 => ?_) fun _ _ z => z.elim)
  obtain ⟨v, H2, J2, rv, q2⟩ := h2
  exact ⟨v, H2, J2.os, J2.bare, J2.base, J2.hok, rv, q2⟩
def tCallS (f : Addr) (n : Nat) (sp : Sp) (tv : TE) (t : TA) : TE := fun σ H Q => tv σ H fun x H1 => x = .ref f ∧ LamAt H1 f ∧ t σ H1 fun vs H2 => LamAt H2 f ∧ vs.length = n ∧ sp vs H2 Q XF
theorem ap_callS {f : Addr} {n : Nat} {sp : Sp} {tv : TE} {t : TA} {σ : St} {H : Hp} {Q : VK} : tCallS f n sp tv t σ H Q = tv σ H fun x H1 => x = .ref f ∧ LamAt H1 f ∧ t σ H1 fun vs H2 => LamAt H2 f ∧ vs.length = n ∧ sp vs H2 Q XF := propext Iff.rfl
section
variable {X : Cx}
theorem pvF (i : Nat) {x : Str} {pos : Pos} (hN : X.N[i]? = some x := by kernel_rfl) (hv : X.env.scope.names.lookup x = some .free := by kernel_rfl) (hd : (x == ("__debug__" : Str)) = false := by kernel_rfl)
    (hcd : (x == ("__classdict__" : Str)) = false := by kernel_rfl) : PE X (.Name x pos) (tVar i) := pe_var hN (.inr (.inr hv)) hd hcd
theorem run_step {pins : List (Addr × Obj)} {σ : St} {H : Hp} {s : Shared} {k n : Nat} {f : Addr} {sp : Sp} {Q : VK} {us : List Value} {vs : List V} (S : StepOk X.prog X.w X.K X.mg X.base k n f sp X.s₀ X.H₀) (hex : X.ex = []) (hr : Room k X.A) (I : Inv X pins σ H s) (r : Vals vs us) (hl : vs.length = n) (h : sp vs H Q XF) :
    wpAny (model X.prog X.w) X.A (call (.ref f) us) (EP X pins σ Q) X.xe s := by
  have u := I.base
  rw [hex] at u
  refine wpAny_call (codeAny_mono (S X.A X.stack s H us vs Q hr I.env0 ⟨_, u⟩ r hl h) fun r s' hq => ?_)
  cases r with
  | error e => exact (cx1_false hq).elim
  | ok fl =>
    cases fl with
    | ret u => exact I.after hq
    | next => exact False.elim hq
    | brk => exact False.elim hq
    | cont => exact False.elim hq
theorem pe_callStep {k n : Nat} {f : Addr} {sp : Sp} {x : Str} {e : Expr} {es : List Expr} {tv : TE} {t : TA} {p pos : Pos} (S : StepOk X.prog X.w X.K X.mg X.base k n f sp X.s₀ X.H₀) (hex : X.ex = []) (hr : Room k X.A) (hv : PE X (.Name x p) tv) (ha : PA X (e :: es) t) (hs : noStars (e :: es) = true := by kernel_rfl) :
    PE X (.Call (.Name x p) (e :: es) [] pos) (tCallS f n sp tv t) := by
  intro pins s σ H Q I h
  refine wpAny_Call_Name_kw (thn (hv pins s σ H _ I h) fun u s1 ⟨v, H1, I1, r, ev, B1, q1⟩ => ?_)
  subst ev
  cases r
  refine PySem.W.callWith_F (B1.fn I1) (thn (ha pos pins s1 σ H1 _ I1 q1) fun us s2 ⟨vs, H2, I2, r2, B2, l2, q2⟩ => ⟨B2.fn I2, ?_⟩) (starEach_cons (noStars_tail hs).1) (backTo_any (noStars_tail hs).2)
  exact run_step S hex hr I2 r2 l2 q2
end
def spHO (P : Program) (w : World) (K : PySem.W.Frag) (mg : Str → Option Value) (base : Heap) (k n : Nat) (spA : Sp → Sp) : Shared → Sp := fun s vs H Q E => ∃ (f : Addr) (spf : Sp), vs.getLast? = some (.ref f) ∧ LamAt H f ∧ StepOk P w K mg base k n f spf s H ∧ spA spf vs H Q E
section
variable {X : Cx}
end
def tabsH (ts : List (Addr × Str)) : Hp := fun b => (ts.lookup b).map tabO
theorem tabs_in : ∀ {ts : List (Addr × Str)}, (ts.map (·.1)).Nodup → ∀ p ∈ ts, tabsH ts p.1 = some (tabO p.2)
  | [], _, p, h => by cases h
  | t :: r, hn, p, h => by
    unfold tabsH
    rw [List.lookup_cons]
    rcases List.mem_cons.mp h with e | e
    · subst e; simp
    · have hne : p.1 ≠ t.1 := fun z => (List.nodup_cons.mp hn).1 (List.mem_map.mpr ⟨_, e, z⟩)
      rw [show (p.1 == t.1) = false by simpa using hne]
      exact tabs_in (List.nodup_cons.mp hn).2 p e
theorem mem_lk {b : Addr} {q : Str} : ∀ {ts : List (Addr × Str)}, ts.lookup b = some q → (b, q) ∈ ts
  | [], h => by cases h
  | (c, r) :: ts, h => by
    rw [List.lookup_cons] at h
    by_cases e : b = c
    · subst e
      simp at h
      subst h
      exact List.mem_cons_self
    · rw [show (b == c) = false by simpa using e] at h
      exact List.mem_cons_of_mem _ (mem_lk h)
theorem tabs_of {ts : List (Addr × Str)} {b : Addr} {o : HO} (h : tabsH ts b = some o) : ∃ p ∈ ts, p.1 = b ∧ o = tabO p.2 := by
  unfold tabsH at h
  obtain ⟨q, e, rfl⟩ := Option.map_eq_some_iff.mp h
  exact ⟨(b, q), mem_lk e, rfl, rfl⟩
theorem law_callTs {P : Program} {w : World} {K : PySem.W.Frag} {mg mb : Str → Option Value} {CX : CXT} {k : Nat} {fa a : Addr} {ts : List (Addr × Str)} {fd : FuncData} {x : Str} {sp : Sp} {s₁ : Shared} {vs : List Value} {ns : List Int}
    (KX : K.In s₁.heap) (hns : s₁.heap.Ns mainGlobals mg) (hb : s₁.heap.Ns builtinsNs mb) (hbb : ∀ x : Str, x ≠ "__name__" → mb x = bootBuiltins x) (hlim : s₁.heap.NoLimit)
    (hbm : ∃ bm ob, mg "__builtins__" = some (.ref bm) ∧ bm ≠ builtinsNs ∧ s₁.heap.get? bm = some ob ∧ ob.cls = .type "module" ∧ ob.dict = some builtinsNs ∧ ob.data = .plain) (hg : s₁.gens = #[])
    (ha : s₁.heap.get? a = some { cls := .type "list", data := .seq vs.toArray }) (hi : IntsAre vs ns) (hl : ns.length ≤ sizeLine) (hr : Room k callerA) (hnd : (ts.map (·.1)).Nodup) (hC : ∀ p ∈ ts, ∃ c, PySem.W.codeHdIn K c p.1 = true) (hPt : ∀ p ∈ ts, s₁.heap.get? p.1 = some { cls := .none, data := .fields #[] }) (hKP : ∀ p ∈ ts, K.lookup p.1 = none)
    (F : ∀ base : Heap, K.In base → base.Ns mainGlobals mg → FnOk P w K mg base CX k fa fd [x] sp) (hbind : ∀ (s : Shared) (u : Value), BindsTo s fd ⟨[u], []⟩ [(x, u)])
    (hsp : ∀ H : Hp, SqL K H a (ns.map V.int) → (∀ p ∈ ts, H p.1 = some (tabO p.2)) → sp [.ref a] H (fun v _ => v = .bl true) fun _ _ _ => False)
    (hCX : ∀ H e s', CX [] H s₁ (fun _ _ _ => False) e s' → False) :
    codeAny (model P w) callerA (.call (.ref fa) ⟨[.ref a], []⟩) (fun r s' => r = .ok (.ret (.bool true)) ∧ OldK s₁.heap s'.heap ∧ s'.os = s₁.os ∧ AllBare s'.gens) s₁ := by
  have rv := vals_ints hi
  have lenV := hi.length
  have nPa : ∀ p ∈ ts, p.1 ≠ a := fun p hp z => by have := hPt p hp; rw [z, ha] at this; cases this
  have core : ∀ H : Hp, SqL K H a (ns.map V.int) → HOk P w H s₁.heap → (∀ p ∈ ts, H p.1 = some (tabO p.2)) → (∀ b, H b ≠ none → (∃ p ∈ ts, b = p.1) ∨ (b = a ∧ ∃ o xs, H b = some (.frz o (.lst xs)))) → (H a ≠ none → K.lookup a = none) →
      codeAny (model P w) callerA (.call (.ref fa) ⟨[.ref a], []⟩) (fun r s' => r = .ok (.ret (.bool true)) ∧ OldK s₁.heap s'.heap ∧ s'.os = s₁.os ∧ AllBare s'.gens) s₁ := by
    intro H hS hok hT hA hK
    have base_of : ∀ {b : Addr} {o : Obj}, s₁.heap.get? b = some o → H b = none → (hidT s₁.heap H).get? b = some o := fun e n => hidT_get e n
    have noO : ∀ {b : Addr} {o : Obj}, s₁.heap.get? b = some o → (∀ xs n, o.data ≠ .seq xs n) → (∀ xs, o.data ≠ .fields xs) → H b = none := fun {b o} e d1 d2 => by
      cases qb : H b with
      | none => rfl
      | some u =>
        rcases hA b (by rw [qb]; simp) with ⟨p, hp, z⟩ | ⟨z, _⟩
        · subst z
          rw [hPt p hp] at e; cases e
          exact absurd rfl (d2 _)
        · subst z
          rw [ha] at e; cases e
          exact absurd rfl (d1 _ _)
    have nsK : ∀ {b : Addr} {m : Str → Option Value}, s₁.heap.Ns b m → (hidT s₁.heap H).Ns b m := fun {b m} ⟨o, es, ep, e, d, r⟩ => ⟨o, es, ep, base_of e (noO e (fun _ _ z => by rw [d] at z; cases z) fun _ z => by rw [d] at z; cases z), d, r⟩
    have hKb : K.In (hidT s₁.heap H) := fun b o e => base_of (KX b o e) (by
      cases qb : H b with
      | none => rfl
      | some u =>
        rcases hA b (by rw [qb]; simp) with ⟨p, hp, z⟩ | ⟨z, _⟩
        · subst z
          rw [hKP p hp] at e; cases e
        · subst z
          rw [hK (by rw [qb]; simp)] at e; cases e)
    have hM : Mod K mg (hidT s₁.heap H) := ⟨hKb, nsK hns, ⟨mb, nsK hb, hbb⟩, let ⟨mc, h1, h2⟩ := hlim; ⟨mc, nsK h1, h2⟩, let ⟨bm, ob, b1, b2, b3, b4, b5, b6⟩ := hbm; ⟨bm, ob, b1, b2, base_of b3 (noO b3 (fun _ _ z => by rw [b6] at z; cases z) fun _ z => by rw [b6] at z; cases z), b4, b5, b6⟩⟩
    have e0 : Env0 P w K mg (hidT s₁.heap H) callerA [] s₁ H := ⟨rfl, hM, fun b o e => of_hidT e, Nat.le_of_eq (hidT_size _ _), trivial, fun b hb => absurd (show b ∈ ([] : List Addr) from hb) (by simp), hok, .of_eq hg⟩
    refine codeAny_mono ((F _ hKb (nsK hns)).run callerA [] s₁ H ⟨[.ref a], []⟩ [.ref a] [.ref a] _ _ hr e0 (hbind s₁ (.ref a)) (.cons rfl .nil) (hsp H hS hT)) fun r s' h => ?_
    cases r with
    | error e => exact (hCX H e s' h).elim
    | ok fl =>
      cases fl with
      | next => exact False.elim h
      | brk => exact False.elim h
      | cont => exact False.elim h
      | ret u =>
        obtain ⟨v, H', os, bare, un, hok', r', qv⟩ := h
        have qv' : v = .bl true := qv
        subst qv'
        obtain rfl : u = Value.bool true := r'
        refine ⟨rfl, ⟨fun b o e => ?_, fun b o e => un.there b o e (by simp)⟩, os, bare⟩
        cases qb : H b with
        | none => exact .inl (un.keep b o e qb (by intro z; exact absurd (show b ∈ ([] : List Addr) from z) (by simp)) (by simp))
        | some u =>
          rcases hA b (by rw [qb]; simp) with ⟨p, hp, z⟩ | ⟨z, ob, xs, z1⟩
          · subst z
            obtain ⟨c, hc⟩ := hC p hp
            have hCd := PySem.W.codeHd_of_K KX hc
            rw [hPt p hp] at e; cases e
            obtain ⟨more, z2⟩ := un.tbls p.1 _ (hT p hp)
            obtain ⟨qs, z3, _⟩ := (show ObjOk P w H' s'.heap p.1 _ from hok' p.1 _ z2)
            exact .inr (.inl ⟨(hCd.tab (hPt p hp)).isCodeTable, rfl, #[], qs, rfl, by simpa using z3⟩)
          · have z2 := un.frzs b ob _ z1
            obtain ⟨e1, _⟩ := hok b _ z1
            obtain ⟨e2, _⟩ := hok' b _ z2
            rw [e] at e1; cases e1
            exact .inl e2
  have okT : ∀ (H : Hp), ∀ p ∈ ts, ObjOk P w H s₁.heap p.1 (tabO p.2) := fun H p hp => ⟨#[], hPt p hp, trivial, fun pos c z => by simp [codeAmong] at z⟩
  have noa : tabsH ts a = none := by
    cases q : tabsH ts a with
    | none => rfl
    | some o =>
      obtain ⟨p, hp, z, _⟩ := tabs_of q
      exact absurd z (nPa p hp)
  cases hk : K.lookup a with
  | some o =>
    have e := KX a o hk
    rw [ha] at e
    cases e
    refine core (tabsH ts) (.inr ⟨_, vs.toArray, _, hk, rfl, rfl, rfl, by rw [List.size_toArray, lenV]; exact hl, by simpa using rv⟩) (fun b u z => ?_) (tabs_in hnd) (fun b z => ?_) fun z => absurd noa z
    · obtain ⟨p, hp, rfl, rfl⟩ := tabs_of z
      exact okT _ p hp
    · cases q : tabsH ts b with
      | none => exact absurd q z
      | some o =>
        obtain ⟨p, hp, e, _⟩ := tabs_of q
        exact .inl ⟨p, hp, e.symm⟩
  | none =>
    have hT : ∀ p ∈ ts, upd (tabsH ts) a (.frz { cls := .type "list", data := .seq vs.toArray } (.lst (ns.map V.int))) p.1 = some (tabO p.2) := fun p hp => (upd_ne (nPa p hp)).trans (tabs_in hnd p hp)
    refine core (upd (tabsH ts) a (.frz { cls := .type "list", data := .seq vs.toArray } (.lst (ns.map V.int)))) (.inl (.inr ⟨{ cls := .type "list", data := .seq vs.toArray }, upd_same⟩)) (fun b u z => ?_) hT (fun b z => ?_) fun _ => hk
    · by_cases hb2 : b = a
      · subst hb2
        rw [upd_same] at z
        cases z
        exact ⟨ha, by rw [List.length_map]; exact hl, vs, _, rv, ha⟩
      · rw [upd_ne hb2] at z
        obtain ⟨p, hp, rfl, rfl⟩ := tabs_of z
        exact okT _ p hp
    · by_cases hb2 : b = a
      · exact .inr ⟨hb2, _, _, by rw [hb2]; exact upd_same⟩
      · rw [upd_ne hb2] at z
        cases q : tabsH ts b with
        | none => exact absurd q z
        | some o =>
          obtain ⟨p, hp, e, _⟩ := tabs_of q
          exact .inl ⟨p, hp, e.symm⟩
theorem walk_ofTs {l : PySem.W.OpenLaw} {n k : Nat} {qq : Program} {loose : List Str} {XP : (Str → Option Value) → Heap → Prop} {YP : World → Heap → Prop} {d : DefRec} {K : Params → PySem.W.Frag} {CX : World → CXT} {sp : World → Sp} {x : Str} (ts : List (Addr × Str))
    (hn : l.most = some n) (hn2 : n ≤ sizeLine) (hdf : d.params.defaults = []) (hr : Room k callerA) (hnd : (ts.map (·.1)).Nodup)
    (hY : ∀ (w : World) (h : Heap), YP w h → (K w.params).In h ∧ ∀ p ∈ ts, h.get? p.1 = some { cls := .none, data := .fields #[] })
    (F : ∀ (w : World) (mg : Str → Option Value) (fa : Addr) (h : Heap), (K w.params).In h → h.Ns mainGlobals mg → mg d.name = some (.ref fa) →
      (∀ p ∈ ts, ∃ c, PySem.W.codeHdIn (K w.params) c p.1 = true) ∧ ∃ fd : FuncData, (∀ (s : Shared) (u : Value), BindsTo s fd ⟨[u], []⟩ [(x, u)]) ∧
        ∀ base : Heap, (K w.params).In base → base.Ns mainGlobals mg → FnOk l.prog w (K w.params) mg base (CX w) k fa fd [x] (sp w))
    (hKP : ∀ w : World, ∀ p ∈ ts, (K w.params).lookup p.1 = none)
    (hsp : ∀ (w : World) (H : Hp) (a : Addr) (ns : List Int), ns.length ≤ n → SqL (K w.params) H a (ns.map V.int) → (∀ p ∈ ts, H p.1 = some (tabO p.2)) → sp w [.ref a] H (fun v _ => v = .bl true) fun _ _ _ => False)
    (hCX : ∀ (w : World) (H : Hp) (s : Shared) (e : Value) (s' : Shared), CX w [] H s (fun _ _ _ => False) e s' → False) :
    PySem.W.WalkO qq loose XP YP l.row.toRowW d [] (fun f vs => PySem.call f vs) := by
  refine Att.attach_call hn hdf fun w s₀ s₁ mg mb fa o pm cd doc a vs ns G Y ho hd hcd hmg hobj hints hlen hg => ?_
  obtain ⟨KX, hPt⟩ := hY w _ Y
  obtain ⟨hC, fd, hb, hF⟩ := F w mg fa _ KX G.T.g hmg
  exact law_callTs KX G.T.g G.T.b G.T.builtins G.T.nolimit G.T.bmain hg hobj hints (Nat.le_trans hlen hn2) hr hnd hC hPt (hKP w) hF hb (fun H hS hT => hsp w H a ns hlen hS hT) fun H e s' => hCX w H s₁ e s'
end L2

namespace L2
open PySem PySem.Spec PyProof.Rows
theorem entry_unchain : entryFor table "proto.unchain" = some Builtin.«proto.unchain» := entryFor_of_fast (by kernel_rfl)
section
variable {prog : Program} {w : World} {A : Around} {E : Value → Shared → Prop} {s : Shared}
theorem unchain_none {e : Value} {ea : Addr} {ob : Obj} {vs : Array Value} {Q : Value → Shared → Prop} (h1 : s.heap.get? ea = some ob) (h2 : ob.data = .fields vs) (h3 : vs[2]? = some .none) (h : Q .none s) :
    wpAny (model prog w) A (runValue (.builtin "proto.unchain" ⟨[e, .ref ea, .ref ea, .bool false], []⟩)) Q E s := by
  refine wpAny_runValue (codeAny_builtin entry_unchain ?_)
  show wpAny _ _ (field (.ref ea) 2 >>= _) _ _ s
  refine wpAny_bind (wpAny_field h1 h2 h3 ?_)
  exact wpAny_pure h
theorem raiseNew_on {α : Type} {e ea : Addr} {o ob : Obj} {us vs : Array Value} {Q : α → Shared → Prop} (hh : A.handled = some (.ref ea)) (hne : ea ≠ e) (h1 : s.heap.get? ea = some ob) (h2 : ob.data = .fields vs) (h3 : vs[2]? = some .none)
    (o1 : s.heap.get? e = some o) (o2 : o.data = .fields us) (o3 : 2 < us.size) (h : E (.ref e) { s with heap := s.heap.update e (Obj.mapFields (·.setIfInBounds 2 (.ref ea))) }) :
    wpAny (model prog w) A (raiseNew (.ref e) : Sem α) Q E s := by
  unfold raiseNew
  refine wpAny_bind (wpAny_handled ?_)
  rw [hh]
  dsimp only
  rw [if_pos (by simp only [bne_iff_ne, ne_eq, Value.ref.injEq]; exact hne)]
  refine wpAny_bind (wpAny_holding (unchain_none h1 h2 h3 (wpAny_bind ?_)))
  refine wpAny_mono (wpAny_setField (E := E) o1 o2 o3 (Q := fun _ s' => E (.ref e) s') h) (fun _ s' q => wpAny_throw q) (fun _ _ q => q)
theorem pyNext_range_on {it ea : Addr} {ob : Obj} {vs : Array Value} {x left step : Int} {Q : Option Value → Shared → Prop} (hh : A.handled = some (.ref ea)) (h1 : s.heap.get? ea = some ob) (h2 : ob.data = .fields vs) (h3 : vs[2]? = some .none)
    (hit : IsRangeIter s.heap it x left step) (hleft : left ≤ 0) (hQ : ∀ h', Heap.ExtBut it s.heap h' → Q none { s with heap := h' }) : wpAny (model prog w) A (pyNext (.ref it)) Q E s := by
  have hT : s.TypeIs (.ref it) "range_iterator" := ⟨_, hit, rfl⟩
  unfold pyNext
  refine wpAny_bind (wpAny_attempt (wpAny_callSpecial?_slot (name := Str.ofString "__next__") hT F.slot_range_iterator_next
    (wpAny_call_entry F.slot_range_iterator_next hT F.entry_range_iterator_next ?_ (F.args_range_iterator_next_1 _))))
  show wpAny _ _ (field (.ref it) 0 >>= _) _ _ s
  refine wpAny_bind (wpAny_field hit rfl (x := rawInt x) rfl ?_)
  show wpAny _ _ (field (.ref it) 1 >>= _) _ _ s
  refine wpAny_bind (wpAny_field hit rfl (x := rawInt left) rfl ?_)
  show wpAny _ _ (field (.ref it) 2 >>= _) _ _ s
  refine wpAny_bind (wpAny_field hit rfl (x := rawInt step) rfl ?_)
  show wpAny _ _ (if left ≤ 0 then _ else _) _ _ s
  rw [if_pos hleft]
  refine wpAny_bind (wpAny_rule ?_)
  refine wpAny_bind ?_
  show wpAny _ _ (newExc (.type "StopIteration") [] >>= _) _ _ _
  refine wpAny_bind ?_
  simp only [newExc, newTuple]
  refine wpAny_bind (wpAny_newObj_type ?_ (by size_fits))
  refine wpAny_bind (m := firstArgMember _ _) (wpAny_of_eq (a := Value.none) (by first | rfl | (simp only [firstArgMember]; rfl)) ?_)
  refine wpAny_newObj_type ?_ (by size_fits)
  have lt := Heap.lt_size h1
  refine raiseNew_on (A := A.in1) hh ?_ (Heap.get?_push_of_some _ (Heap.get?_push_of_some _ h1)) h2 h3 (Heap.get?_push_size _ rfl) rfl (Nat.lt_of_lt_of_le (show 2 < 6 by decide) (by rw [Array.size_append]; exact Nat.le_add_right _ _)) ?_
  · rw [Heap.size_push]; exact Nat.ne_of_lt (Nat.lt_succ_of_lt lt)
  refine wpAny_bind (wpAny_isInstance (T := "StopIteration") (b := true) ⟨_, Heap.get?_update_self _ (Heap.get?_push_size _ rfl) rfl, rfl⟩ isSubtype_stop ?_)
  refine wpAny_pure (hQ _ fun b o hb e => ?_)
  have := Heap.lt_size e
  refine (Heap.get?_update_other _ _ ?_).trans (Heap.get?_push_of_some _ (Heap.get?_push_of_some _ e))
  rw [Heap.size_push]; exact Nat.ne_of_gt (Nat.lt_succ_of_lt this)
end
structure TurnH (hd : Option Value) (P : Program) (w : World) (K : PySem.W.Frag) (tg : Expr) (J : It) (fp : List Addr) (it : Addr) (tn : Nat → Heap → Prop) : Prop where
  mem : it ∈ fp
  obj : ∀ i h, tn i h → ∀ b ∈ fp, ∃ o, h.get? b = some o ∧ ∀ v, o.data ≠ .cell v
  keep : ∀ i h h', tn i h → (∀ b ∈ fp, ∀ o, h.get? b = some o → h'.get? b = some o) → tn i h'
  item : ∀ (X : Cx), X.prog = P → X.w = w → X.K = K → X.A.handled = hd → ∀ (i : Nat) (pins : List (Addr × Obj)) (s : Shared) (σ : St) (H : Hp) (E : Value → Shared → Prop), Inv X pins σ H s → (∀ b ∈ fp, FpOk X pins H b) → tn i s.heap → J.go i H →
    wpAny (model P w) X.A (pyNext (.ref it)) (fun r s1 => ∃ u, r = some u ∧
      wpAny (model P w) X.A (letOwnedTupleGo tg (.ref it) u) (fun _ s2 => ∃ x H', Inv X pins σ H' s2 ∧ RelV x u ∧ J.yld i H x H' ∧ tn (i + 1) s2.heap ∧ ∀ b ∈ fp, H' b = none) E s1) E s
  done : ∀ (X : Cx), X.prog = P → X.w = w → X.K = K → X.A.handled = hd → ∀ (i : Nat) (pins : List (Addr × Obj)) (s : Shared) (σ : St) (H : Hp) (E : Value → Shared → Prop), Inv X pins σ H s → (∀ b ∈ fp, FpOk X pins H b) → tn i s.heap → J.stop i H →
    wpAny (model P w) X.A (pyNext (.ref it)) (fun r s1 => r = none ∧ Inv X pins σ H s1) E s
  self : ∀ (A : Around) (i : Nat) (s : Shared) (Q : Value → Shared → Prop) (E : Value → Shared → Prop), tn i s.heap → Q (.ref it) s → wpAny (model P w) A (pyIter (.ref it)) Q E s
def PIEH (X : Cx) (pins : List (Addr × Obj)) (σ : St) (tg : Expr) (R : It → Hp → Prop) (itv : Value) (s2 : Shared) : Prop :=
  ∃ (it : Addr) (fp : List Addr) (tn : Nat → Heap → Prop) (J : It) (H' : Hp), itv = .ref it ∧ Inv X pins σ H' s2 ∧ TurnH X.A.handled X.prog X.w X.K tg J fp it tn ∧ tn 0 s2.heap ∧ (∀ b ∈ fp, FpOk X pins H' b) ∧ R J H'
def PIH (X : Cx) (tg iter : Expr) (wi : TI) : Prop :=
  ∀ (pins : List (Addr × Obj)) (s : Shared) (σ : St) (H : Hp) (R : It → Hp → Prop), Inv X pins σ H s → wi σ H R →
    wpAny (model X.prog X.w) X.A (eval iter X.env) (fun v s1 => wpAny (model X.prog X.w) X.A (pyIter v) (PIEH X pins σ tg R) X.xe s1) X.xe s

def ItrH (hd : Option Value) (lo : Int) (n : Nat) : It := ⟨fun i _ => i < n, fun i H x H' => H' = H ∧ x = .int (lo + i), fun i H => n ≤ i ∧ HandIn hd H⟩
theorem turn_rangeH {hd : Option Value} {P : Program} {w : World} {K : PySem.W.Frag} {tg : Expr} (it : Addr) (lo : Int) (n : Nat) : TurnH hd P w K tg (ItrH hd lo n) [it] it (fun i h => IsRangeIter h it (lo + (i : Nat) * 1) ((n : Int) - (i : Nat)) 1) where
  mem := (turn_range (P := P) (w := w) (K := K) (tg := tg) it lo n).mem
  obj := (turn_range (P := P) (w := w) (K := K) (tg := tg) it lo n).obj
  keep := (turn_range (P := P) (w := w) (K := K) (tg := tg) it lo n).keep
  self := (turn_range (P := P) (w := w) (K := K) (tg := tg) it lo n).self
  item := by
    intro X hP hw hK hc i pins s σ H E I hf st hg
    subst hP hw hK
    obtain ⟨f0, f1, f2, f3, f4, f5⟩ := hf it (by simp)
    refine wpAny_pyNext_range_item st (by have : i < n := hg; omega) fun h' st' sb => ?_
    have I1 : Inv X pins σ H { s with heap := h', toks := s.toks + 1 } := I.turned (fun b o hb e => (sb.2 b hb).trans e) f0 f1 f3 f4 f5
    have e1 : lo + ((i + 1 : Nat) : Int) * 1 = lo + ((i : Nat) : Int) * 1 + 1 := by omega
    have e2 : (n : Int) - ((i + 1 : Nat) : Int) = (n : Int) - ((i : Nat) : Int) - 1 := by omega
    have st2 : IsRangeIter h' it (lo + ((i + 1 : Nat) : Int) * 1) ((n : Int) - ((i + 1 : Nat) : Int)) 1 := by rw [e1, e2]; exact st'
    refine ⟨_, rfl, go_of (s := { s with heap := h', toks := s.toks + 1 }) (n := "range_iterator") st' rfl rfl (by decide) ⟨.int (lo + i), H, I1, ⟨s.toks, ?_⟩, ⟨rfl, rfl⟩, st2, fun b hb => (hf b hb).1⟩⟩
    rw [Int.mul_one]
  done := by
    intro X hP hw hK hc i pins s σ H E I hf st hg
    subst hP hw hK
    obtain ⟨f0, f1, f2, f3, f4, f5⟩ := hf it (by simp)
    obtain ⟨hn, hin⟩ := hg
    rcases hin with hin | ⟨ea, φ, e1, e2, e3⟩
    · exact wpAny_pyNext_range_end (hc.trans hin) st (by omega) fun h' eb => ⟨rfl, I.turned (t' := s.toks) (fun b o hb e => eb b o hb e) f0 f1 f3 f4 f5⟩
    · obtain ⟨p, _, _⟩ := (show ObjOk X.prog X.w H s.heap ea (.ext φ) from I.hok ea _ e2)
      obtain ⟨ob, vs, q1, q2, q3⟩ := e3 _ p
      exact pyNext_range_on (hc.trans e1) q1 q2 q3 st (by omega) fun h' eb => ⟨rfl, I.turned (t' := s.toks) (fun b o hb e => eb b o hb e) f0 f1 f3 f4 f5⟩
def iRng1H (hd : Option Value) (ta : TA) : TI := fun σ H R => ta σ H fun vs H1 => ∃ j : Int, vs = [.int j] ∧ -(2 ^ 62) ≤ j ∧ j < 2 ^ 62 ∧ R (ItrH hd 0 j.toNat) H1
theorem ap_iRng1H {hd : Option Value} {σ : St} {H : Hp} {ta : TA} {R : It → Hp → Prop} : iRng1H hd ta σ H R = ta σ H fun vs H1 => ∃ j : Int, vs = [.int j] ∧ -(2 ^ 62) ≤ j ∧ j < 2 ^ 62 ∧ R (ItrH hd 0 j.toNat) H1 := propext Iff.rfl
section
variable {X : Cx} {tg : Expr}
theorem range_itH {pins : List (Addr × Obj)} {σ : St} {H : Hp} {s : Shared} {R : It → Hp → Prop} {E : Value → Shared → Prop} {lo hi : Int} {t u v : Tok} {tk : Nat} (I : Inv X pins σ H s) (h1 : -(2 ^ 62) ≤ lo) (h2 : lo < 2 ^ 62) (h3 : -(2 ^ 62) ≤ hi) (h4 : hi < 2 ^ 62)
    (q : R (ItrH X.A.handled lo (hi - lo).toNat) H) : wpAny (model X.prog X.w) X.A (pyIter (.ref s.heap.objs.size)) (PIEH X pins σ tg R) E { s with heap := s.heap.push { cls := .type "range", data := .fields #[.int lo t, .int hi u, .int 1 v] }, toks := tk } := by
  refine wpAny_pyIter_range (IsRange.new ..) (small_one h1 h2 h3 h4) ?_
  have I1 : Inv X pins σ H { s with heap := s.heap.push { cls := .type "range", data := .fields #[.int lo t, .int hi u, .int 1 v] }, toks := tk } := I.kept fun b o e => Heap.get?_push_of_some _ e
  refine ⟨(s.heap.push { cls := .type "range", data := .fields #[.int lo t, .int hi u, .int 1 v] }).objs.size, [(s.heap.push { cls := .type "range", data := .fields #[.int lo t, .int hi u, .int 1 v] }).objs.size], _, _, H, rfl,
    I1.kept (t' := tk) fun b o e => Heap.get?_push_of_some _ e, turn_rangeH _ lo (hi - lo).toNat, ?_, fun b hb => ?_, q⟩
  · have e1 : lo + ((0 : Nat) : Int) * 1 = lo := by simp
    have e2 : (((hi - lo).toNat : Nat) : Int) - ((0 : Nat) : Int) = Builtin.Range.rangeSize lo hi 1 := by rw [rangeSize_one]; split <;> omega
    show IsRangeIter _ _ (lo + ((0 : Nat) : Int) * 1) ((((hi - lo).toNat : Nat) : Int) - ((0 : Nat) : Int)) 1
    rw [e1, e2]
    exact Heap.get?_push_size _ rfl
  · have e : b = (s.heap.push { cls := .type "range", data := .fields #[.int lo t, .int hi u, .int 1 v] }).objs.size := by simpa using hb
    subst e
    exact I1.fpOk (Nat.le_refl _) (I1.hok.fresh (Nat.le_refl _))
theorem pi_range1H {a : Expr} {ta : TA} {p pos : Pos} (hg : Gl X "range") (hm : X.mg "range" = none) (ha : PA X [a] ta) (hs : starEach [a] X.env = [(false, eval a X.env)] := by rfl) : PIH X tg (.Call (.Name "range" p) [a] [] pos) (iRng1H X.A.handled ta) := by
  intro pins s σ H R I h
  refine Call_ (ld_blt I hg hm boot_range (PyProof.Rows.callWith_type1 (thn (ha pos pins s σ H _ I h) fun us s1 ⟨vs, H1, I1, r1, q1⟩ => ?_) hs rfl))
  obtain ⟨j, e, q1, q2, q⟩ := q1
  subst e
  cases r1 with
  | cons r rr =>
    cases rr
    obtain ⟨t, rfl⟩ := r
    exact call_range_1 (range_itH I1 (by omega) (by omega) q1 q2 (by simpa using q))
theorem pi_range1GH {a : Expr} {ta : TA} {p pos : Pos} (hm : X.mg "range" = none) (ha : PA X [a] ta) (hg : X.env.kindOf "range" = some .globalImplicit := by kernel_rfl) (hs : noStar a = true := by kernel_rfl) : PIH X tg (.Call (.Name "range" p) [a] [] pos) (iRng1H X.A.handled ta) :=
  pi_range1H hg hm ha (starEach_cons hs)
end
theorem seq_rangeH {hd : Option Value} {H1 : Hp} {n : Nat} {lo : Int} (hin : HandIn hd H1) : (ItrH hd lo n).Seq H1 ((List.range n).map fun (k : Nat) => V.int (lo + (k : Int))) := fun H s => by
  obtain ⟨h1, h2⟩ := seq_range (lo := lo) (n := n) H s
  exact ⟨fun i x e => h1 i x e, fun i hi => ⟨h2 i hi, hin.same s⟩⟩
section
variable {X : Cx} {pins : List (Addr × Obj)} {σ : St} {H1 : Hp} {s₂ : Shared} {E : Value → Shared → Prop}
theorem blk_runH {elt target iter : Expr} {ifs : List Expr} {scope : Scope} {pos : Pos} {cl : List (Str × Addr)} {own frn : List Str} {js : List Nat} {g : TG} {tc : TT} {te : TE} {Q : VK} {it : Addr} {fp : List Addr} {tn : Nat → Heap → Prop} {J : It}
    {RR : Value → Addr → Result → Shared → Prop} (B : BlkOk X scope cl) (hfr : FrOk X frn js) (hloc : ∀ x ∈ frn, scope.names.lookup x ≠ some .local)
    (hg : ∀ C s₀ H₀ ex, PG (X.blk (own ++ frn) scope cl C s₀ H₀ ex) target g) (hi : ∀ C s₀ H₀ ex, PIf (X.blk (own ++ frn) scope cl C s₀ H₀ ex) ifs tc) (he : ∀ C s₀ H₀ ex, PE (X.blk (own ++ frn) scope cl C s₀ H₀ ex) elt te)
    (I : Inv X pins σ H1 s₂) (T : TurnH X.A.handled X.prog X.w X.K target J fp it tn) (st0 : tn 0 s₂.heap) (hf : ∀ b ∈ fp, FpOk X pins H1 b) (hq : LcTurns g tc te (blkSt own.length js σ) J H1 Q)
    (fin : ∀ D C s' H' m, s₂.heap.objs.size ≤ C → Inv X pins σ H' s' → s'.heap.Ns C m → FpOk X pins H' C → Q (.ref D) H' → RR (.ref D) C (.ok .next) s') :
    wpAny (model X.prog X.w) X.A (newList []) (fun acc s₃ => wpAny (model X.prog X.w) X.A (newFunctionEnv scope X.env.globals cl [] X.env.qual none .none (some X.env)) (fun cenv s₄ =>
      codeAny (model X.prog X.w) X.A (.compStart (.ListComp elt [⟨target, iter, ifs, 0⟩] scope pos) 0 (.ref it) acc { cenv with scope := relabel scope X.env }) (RR acc cenv.locals) s₄) E s₃) E s₂ := by
  have sub := clo_sub scope.names [] cl B.clo (fun x c e => by cases e)
  refine wpAny_newObj_type (wpAny_newFunctionEnv B.cell (by intro y hy; simp at hy) (fun h₁ hns₁ hsb₁ => ?_) B.kind)
  dsimp only at hns₁ hsb₁ ⊢
  generalize hH2 : s₂.heap.push { cls := .type "list", dict := none, data := .seq ([] : List Value).toArray } = H2 at hns₁ hsb₁ ⊢
  have hC : H2.objs.size = s₂.heap.objs.size + 1 := by rw [← hH2, Heap.size_push]
  have hDC : s₂.heap.objs.size ≠ H2.objs.size := by rw [hC]; exact Nat.ne_of_lt (Nat.lt_succ_self _)
  have hCle : s₂.heap.objs.size ≤ H2.objs.size := by rw [hC]; exact Nat.le_succ _
  have below : ∀ b, b < s₂.heap.objs.size → b ≠ H2.objs.size ∧ b ≠ s₂.heap.objs.size := fun b hb => ⟨by rw [hC]; exact Nat.ne_of_lt (Nat.lt_succ_of_lt hb), Nat.ne_of_lt hb⟩
  have old : ∀ b o, s₂.heap.get? b = some o → h₁.get? b = some o := fun b o e => hsb₁.extBut b o (below b (Heap.lt_size e)).1 (Heap.get?_push_of_some _ (hH2 ▸ Heap.get?_push_of_some _ e))
  have hacc : h₁.get? s₂.heap.objs.size = some { cls := .type "list", dict := none, data := .seq ([] : List Value).toArray } := hsb₁.extBut _ _ hDC (Heap.get?_push_of_some _ (hH2 ▸ Heap.get?_push_size _ rfl))
  have hfo : ∀ b ∈ fp, ∃ o, s₂.heap.get? b = some o ∧ ∀ v, o.data ≠ .cell v := T.obj 0 _ st0
  have D0 : H1 s₂.heap.objs.size = none := I.hok.fresh (Nat.le_refl _)
  have C0 : H1 H2.objs.size = none := I.hok.fresh hCle
  obtain ⟨W, ⟨m0, w0⟩, turn⟩ := hq _ D0
  have okX : (X.blk (own ++ frn) scope cl H2.objs.size s₂ H1 fp).Ok := I.blkOk (N' := own ++ frn) B hCle hf fun b hb => let ⟨o, e, _⟩ := hfo b hb; ⟨o, e⟩
  have I0 : Inv (X.blk (own ++ frn) scope cl H2.objs.size s₂ H1 fp) [] (blkSt own.length js σ) (upd H1 s₂.heap.objs.size (.lst [])) { s₂ with heap := h₁, toks := s₂.toks + ([] : List (Str × Value)).length } := by
    obtain ⟨m, hn, hl⟩ := id I.loc
    refine ⟨okX, rfl, I.bare, Un.laid old (Nat.le_refl _) D0, ⟨_, hns₁, fun i x v e1 e2 e3 => ?_⟩, fun x c e => ?_, ?_, fun x c e => ?_, fun p hp => ?_, ?_, ?_⟩
    · have e1 : (own ++ frn)[i]? = some x := e1
      unfold blkSt at e2
      by_cases hik : i < own.length
      · rw [List.getElem?_append_left (by simpa using hik), List.getElem?_replicate, if_pos hik] at e2
        cases e2
      · rw [List.getElem?_append_right (by simpa using hik), List.length_replicate, List.getElem?_map] at e2
        rw [List.getElem?_append_right (by omega)] at e1
        obtain ⟨j, hj, hNj, hk⟩ := hfr.get e1
        rw [hj] at e2
        have e2' : (σ[j]?).join = some v := Option.some.inj e2
        have e2'' : σ[j]? = some (some v) := by
          cases q : σ[j]? with
          | none => rw [q] at e2'; cases e2'
          | some o => rw [q] at e2'; cases o with
            | none => cases e2'
            | some y => have : y = v := Option.some.inj e2'; rw [this]
        obtain ⟨u, r, lk⟩ := hl j x v hNj e2'' (hk.elim (fun z => .inr (.inl z)) fun z => .inr (.inr z))
        refine ⟨u, r, ?_⟩
        rcases lk with ⟨k1, _⟩ | ⟨_, c, hcl, hcell⟩
        · rcases hk with z | z <;> (rw [k1] at z; cases z)
        · have hx3 : (compEnvC scope cl H2.objs.size X.env).kindOf x = some .local ∨ (compEnvC scope cl H2.objs.size X.env).kindOf x = some .cell ∨ (compEnvC scope cl H2.objs.size X.env).kindOf x = some .free := e3
          rcases hx3 with z | z
          · exfalso
            have z' : (scope.names.map fun (n, k) => if (k == NameKind.free && X.env.scope.kind == .function && X.env.kindOf n == some .cell) then (n, NameKind.cell) else (n, k)).lookup x = some .local := z
            rcases relabel_kind z' with q | ⟨q, _⟩
            · exact hloc x (List.mem_of_getElem? e1) (B.names _ q rfl)
            · cases q
          · obtain ⟨c', hc'⟩ := okX.has x z
            have q := sub x c' hc'
            rw [hcl] at q
            have q' : c = c' := Option.some.inj q
            subst q'
            refine .inr ⟨z, c, hc', ?_⟩
            obtain ⟨o, ho, hd⟩ := hcell
            exact ⟨o, old _ _ ho, hd⟩
    · obtain ⟨v, o, ho, hd⟩ := I.cell x c (sub x c e)
      exact ⟨v, o, old _ _ ho, hd⟩
    · show upd H1 _ _ H2.objs.size = none
      rw [upd_ne (Ne.symm hDC)]; exact C0
    · obtain ⟨v, o, ho, hd⟩ := I.cell x c (sub x c e)
      rw [upd_ne (below c (Heap.lt_size ho)).2]; exact I.freeC x c (sub x c e)
    · cases hp
    · exact I.hok.laid old (Nat.le_refl _) ⟨Nat.zero_le _, [], _, .nil, hacc⟩
    · unfold blkSt
      show _ = (own ++ frn).length
      rw [List.length_append, List.length_append, List.length_replicate, List.length_map, hfr.len]
  -- the iterator's objects in the block
  have fpx : ∀ {H : Hp}, (∀ b ∈ fp, H b = none) → ∀ b ∈ fp, FpOk (X.blk (own ++ frn) scope cl H2.objs.size s₂ H1 fp) [] H b := fun {H} hn b hb => by
    obtain ⟨f0, f1, f2, f3, f4, f5⟩ := hf b hb
    obtain ⟨o, e, _⟩ := hfo b hb
    refine ⟨hn b hb, (below b (Heap.lt_size e)).1, fun z => ?_, .inl hb, fun x c e => f4 x c (sub x c e), fun p hp => by cases hp⟩
    rcases List.mem_cons.mp (I.stkSub b z) with z | z
    · exact f1 z
    · exact f2 z
  have st1 : tn 0 h₁ := T.keep _ _ _ st0 fun b _ o e => old b o e
  have fr0 : ∀ b ∈ fp, upd H1 s₂.heap.objs.size (.lst []) b = none := fun b hb => by
    obtain ⟨o, e, _⟩ := hfo b hb
    rw [upd_ne (below b (Heap.lt_size e)).2]; exact (hf b hb).1
  have loop : codeAny (model X.prog X.w) X.A (.compLoop (.ListComp elt [⟨target, iter, ifs, 0⟩] scope pos) 0 (.ref it) (.ref s₂.heap.objs.size) (compEnvC scope cl H2.objs.size X.env))
      (RR (.ref s₂.heap.objs.size) H2.objs.size) { s₂ with heap := h₁, toks := s₂.toks + ([] : List (Str × Value)).length } := by
    refine compLoop_go (fun n s' => ∃ i ys σ1 H, Inv (X.blk (own ++ frn) scope cl H2.objs.size s₂ H1 fp) [] σ1 H s' ∧ tn i s'.heap ∧ (∀ b ∈ fp, H b = none) ∧ W i n ys σ1 H) ?_ m0 ⟨0, [], _, _, I0, st1, fr0, w0⟩
    rintro n s3 ⟨i, ys, σ3, H3, I3, st3, fr3, w3⟩
    obtain ⟨hD3, hsz, alt⟩ := turn i n ys σ3 H3 w3
    rcases alt with ⟨stop, qn⟩ | ⟨go, step⟩
    · refine thn (T.done (X.blk (own ++ frn) scope cl H2.objs.size s₂ H1 fp) rfl rfl rfl rfl i [] s3 σ3 H3 _ I3 (fpx fr3) st3 stop) fun r s4 ⟨hr, I4⟩ => ?_
      subst hr
      obtain ⟨m, hn, _⟩ := id I4.loc
      have hch : ∀ b ∈ fp, (b ∈ X.ex ∨ X.s₀.heap.objs.size ≤ b) ∧ b ≠ X.env.locals ∧ (∀ x c, X.env.cells.lookup x = some c → c ≠ b) ∧ ∀ p ∈ X.pn ++ pins, p.1 ≠ b := fun b hb => by
        obtain ⟨f0, f1, f2, f3, f4, f5⟩ := hf b hb
        exact ⟨f3, f1, f4, f5⟩
      have IX : Inv X pins σ H3 s4 := I.call' I4.os I4.base I4.hok I4.bare hch
      exact fin _ _ s4 H3 m hCle IX hn (I.fpOk hCle I4.free) qn
    · refine thn (T.item (X.blk (own ++ frn) scope cl H2.objs.size s₂ H1 fp) rfl rfl rfl rfl i [] s3 σ3 H3 _ I3 (fpx fr3) st3 go) fun r s4 ⟨u, hr, h4⟩ => ?_
      subst hr
      refine thn h4 fun _ s5 ⟨x, H5, I5, r5, y5, st5, fr5⟩ => ?_
      have I5' := I5.pinned (fpx fr5) (T.obj _ _ st5)
      refine thn (hg _ _ _ _ _ s5 σ3 H5 x u _ I5' r5 (step x H5 y5)) fun _ s6 ⟨σ6, H6, I6, q6⟩ => ?_
      refine thn (hi _ _ _ _ _ s6 σ6 H6 _ I6 q6) fun b s7 ⟨H7, I7, q7⟩ => ?_
      have again : ∀ {ys' : List V} {H8 : Hp} {s8 : Shared} {m' : Nat}, Inv (X.blk (own ++ frn) scope cl H2.objs.size s₂ H1 fp) ([] ++ pinsAt fp s5.heap) σ6 H8 s8 → m' < n → W (i + 1) m' ys' σ6 H8 →
          ∃ m, m < n ∧ ∃ i ys σ1 H, Inv (X.blk (own ++ frn) scope cl H2.objs.size s₂ H1 fp) [] σ1 H s8 ∧ tn i s8.heap ∧ (∀ b ∈ fp, H b = none) ∧ W i m ys σ1 H := fun {ys' H8 s8 m'} I8 hm w8 => by
        refine ⟨m', hm, i + 1, ys', σ6, H8, I8.unpinned, T.keep _ _ _ st5 fun b hb o e => (I8.pin (b, o) (List.mem_append_right _ (List.mem_append_right _ (mem_pinsAt hb e)))).1, fun b hb => ?_, w8⟩
        obtain ⟨o, e, d⟩ := T.obj _ _ st5 b hb
        exact (I8.pin (b, o) (List.mem_append_right _ (List.mem_append_right _ (mem_pinsAt hb e)))).2.1
      cases b with
      | false =>
        rw [if_neg Bool.false_ne_true] at q7 ⊢
        obtain ⟨m', hm, w7⟩ := q7
        exact again I7 hm w7
      | true =>
        rw [if_pos rfl] at q7 ⊢
        refine thn (he _ _ _ _ _ s7 σ6 H7 _ I7 q7) fun v s8 ⟨y, H8, I8, r8, hD8, m', hm, w8⟩ => ?_
        refine thn (mt_append (X := X.blk (own ++ frn) scope cl H2.objs.size s₂ H1 fp) _ s8 σ6 H8 (.ref s₂.heap.objs.size) [y] _ [v] (fun _ H9 => W (i + 1) m' (ys ++ [y]) σ6 H9) I8 rfl (.cons r8 .nil) ⟨_, ys, y, rfl, rfl, hD8, hsz, w8⟩) fun _ s9 ⟨_, H9, I9, _, w9⟩ => ?_
        exact again I9 hm w9
  exact codeAny_compStart_list loop (T.self X.A 0 _ _ _ st1 loop)
theorem pe_lcH {elt target iter : Expr} {ifs : List Expr} {scope : Scope} {pos : Pos} {cl : List (Str × Addr)} {frn : List Str} {js : List Nat} {wi : TI} {g : TG} {tc : TT} {te : TE} (own : List Str) (B : BlkOk X scope cl) (hfr : FrOk X frn js)
    (hloc : ∀ x ∈ frn, scope.names.lookup x ≠ some .local) (hi : PIH X target iter wi)
    (hg : ∀ C s₀ H₀ ex, PG (X.blk (own ++ frn) scope cl C s₀ H₀ ex) target g) (hif : ∀ C s₀ H₀ ex, PIf (X.blk (own ++ frn) scope cl C s₀ H₀ ex) ifs tc) (he : ∀ C s₀ H₀ ex, PE (X.blk (own ++ frn) scope cl C s₀ H₀ ex) elt te)
    (hs : ∀ x, foldedSetIterable iter X.env x = pure x := by intro _; rfl) : PE X (.ListComp elt [⟨target, iter, ifs, 0⟩] scope pos) (tLC own.length js wi g tc te) := by
  intro pins s σ H Q I h
  rw [eval_ListComp]
  refine wpAny_comprehension_free (use := none) rfl hs (closureFor_clo B.clo) B.kind B.names (thn (hi pins s σ H _ I h) fun v s1 h1 => thn h1 fun itv s2 h2 => ?_)
  obtain ⟨it, fp, tn, J, H2, e, I2, T, st2, f2, hq⟩ := h2
  subst e
  refine blk_runH (RR := fun acc C => compPost (model X.prog X.w) X.A X.xe none (EP X pins σ Q) acc C) B hfr hloc hg hif he I2 T st2 f2 hq ?_
  intro D C s' H' m hC I' hn fC q
  exact ⟨m, hn, fun h' sb => ⟨.ref D, H', I'.turned (t' := s'.toks) (fun b o hb e => (sb.2 b hb).trans e) fC.1 fC.2.1 fC.2.2.2.1 fC.2.2.2.2.1 fC.2.2.2.2.2, rfl, q⟩⟩
end
def sTryE (K : PySem.W.Frag) (tb : (St → XK) → TS) (CE : Addr) (i : Nat) (th : Addr → TS) : TS := fun D σ H =>
  tb (fun σ' c d H' => PySem.W.exmOne K c (.ref CE) = some true ∧ ∀ ea H2, H' ea = none → Same H' H2 → H2 ea = some (excO ea c d) → th ea (D.un i) (σ'.set i (some (.ref ea))) H2) D σ H
section
variable {X : Cx} {pins : List (Addr × Obj)} {σ : St} {H : Hp} {s : Shared}
theorem ps_tryE {body : List Stmt} {b₀ : Stmt} {suite : List Stmt} {x n : Str} {i : Nat} {CE : Addr} {np hpos pos : Pos} {tb : (St → XK) → TS} {th : Addr → TS} (hst : X.stack = X.env :: X.outer) (hf : X.env.frame = some X.env.locals) (hex : X.ex = []) (hN : X.N.Nodup) (hm : X.mg x = some (.ref CE))
    (hb : ∀ (pn : List (Addr × Obj)) (xe : Value → Shared → Prop) (E : St → XK), PassesOwn (model X.prog X.w) X.A X.env xe → Passes (CX1 X.prog X.w) { X with pn := pn, xe := xe } E → PSs { X with pn := pn, xe := xe } body (tb E))
    (hh : ∀ ea : Addr, PSs { X with A := X.A.mark (some (.ref ea)), calm := false, xe := fun _ _ => False } (b₀ :: suite) (th ea))
    (hi : X.N[i]? = some n := by kernel_rfl) (hn : X.env.scope.names.lookup n = some .local := by kernel_rfl) (hg : X.env.kindOf x = some .globalImplicit := by kernel_rfl) (hd : (x == ("__debug__" : Str)) = false := by kernel_rfl) :
    PS X (.Try body [.ExceptHandler (some (.Name x np)) (some n) (b₀ :: suite) hpos] [] [] pos) (sTryE X.K tb CE i th) := by
  intro pins s σ H D I h
  refine wpAny_Try_except ?_
  refine wpAny_mono (hb (X.pn ++ pins) _ _ PassesOwn.looking ?_ [] s σ H D I.pnTo h) ?_ (fun e s1 he => he)
  · intro pins' σ' H1 s1 e s' I' hcx
    obtain ⟨ea, C, t, B, H', d, rfl, os, bare, un, hok, fl, ⟨oe, hoe, hdo⟩, hdx, hkb, htrue, hE⟩ := hcx
    have IX : Inv X pins σ' H1 s1 := I'.pnFrom
    have I2 : Inv X pins σ' H' s' := IX.call' (ch := []) os un hok bare (fun b z => absurd z (by simp))
    have hfr : ∀ b ∈ frs X.stack, ∃ o, s'.heap.get? b = some o ∧ ∀ vs, o.data ≠ .fields vs := fun b hb => (I2.stack.mem hb).2
    have hff : ∀ b ∈ frs X.stack, H' b = none := I2.stkFree
    obtain ⟨oe0, vs0, hoe0, _, hdat0, _⟩ := fl.first
    have nfr : ea ∉ frs X.stack := fun z => by
      obtain ⟨o, e1, e2⟩ := hfr ea z
      rw [hoe0] at e1; cases e1; exact e2 _ hdat0
    have hea : H' ea = none := by
      cases q : H' ea with
      | none => rfl
      | some o => have := hkb ea oe hoe nfr (.inl (by rw [q]; simp)); rw [fl.2.1] at this; cases this
    have new1 : s1.heap.get? ea = none := by
      cases q : s1.heap.get? ea with
      | none => rfl
      | some o => have := hkb ea oe hoe nfr (.inr ⟨o, q⟩); rw [fl.2.1] at this; cases this
    have new0 : X.s₀.heap.get? ea = none := by
      cases q : X.s₀.heap.get? ea with
      | none => rfl
      | some o =>
        obtain ⟨o2, e2⟩ := IX.base.there ea o q (by rw [hex]; simp)
        rw [new1] at e2; cases e2
    have mk : ∀ h6, Heap.FlyingW B X.stack ea (.ref C) (.ref t) h6 → s'.heap.UpToSlots h6 → (∃ o6, h6.get? ea = some o6 ∧ XD o6 d) → Inv X pins σ' (upd H' ea (excO ea (.ref C) d)) { s' with heap := h6 } := by
      intro h6 f6 sm6 ⟨o6, e6, d6⟩
      have J : Inv X pins σ' H' { s' with heap := h6 } := IX.call' (s' := { s' with heap := h6 }) (ch := []) os (un_back un hkb f6.1 sm6 hfr) (hok_back hok hkb f6.1 hff) bare (fun b z => absurd z (by simp))
      obtain ⟨o7, v7, e7, c7, t7, _⟩ := f6.first
      rw [e6] at e7
      cases e7
      refine J.track hea new0 (fun z => ?_) (fun y c e z => ?_) (fun p hp z => ?_) (excO_ok e6 c7 d6)
      · obtain ⟨m, ⟨ob, _, _, e9, _⟩, _⟩ := IX.loc
        rw [← z, new1] at e9; cases e9
      · obtain ⟨w9, o9, e9, _⟩ := IX.cell y c e
        rw [z, new1] at e9; cases e9
      · have e9 := (IX.pin p hp).1
        rw [z, new1] at e9; cases e9
    refine wpAny_mono (KD.any (E := fun _ _ => False) (kd_note _ _) (wpAny_looks_onW (Q := fun _ s'' => ∃ h4, s'' = { s' with heap := h4 } ∧ Heap.HeldW B X.stack ea (.ref C) (.ref t) X.env.locals h4 ∧ s'.heap.UpToSlots h4) (by rw [← hst]; exact I.ok.frames) hf (by rw [← hst]; exact fl) fun h4 x1 x2 => ⟨h4, rfl, by rw [hst]; exact x1, x2⟩)) ?_ (fun _ _ z => False.elim z.1)
    rintro _ _ ⟨⟨h4, rfl, l4, sm4⟩, dk4⟩
    refine wpAny_mono (KD.any (E := fun _ _ => False) (kd_flight _ _) (wpAny_landsW (s := { s' with heap := h4 }) (Q := fun _ s'' => ∃ h5, s'' = { s' with heap := h5 } ∧ Heap.FlyingW B X.stack ea (.ref C) (.ref t) h5 ∧ h4.UpToSlots h5) l4 fun h5 x1 x2 => ⟨h5, rfl, x1, x2⟩)) ?_ (fun _ _ z => False.elim z.1)
    rintro _ _ ⟨⟨h5, rfl, f5, sm5⟩, dk5⟩
    obtain ⟨o5, e5, _, d5, g5⟩ := (dk4.trans dk5) ea oe hoe
    have I5 := mk h5 f5 (sm4.trans sm5) ⟨o5, e5, hdo.dk d5 g5⟩
    obtain ⟨o5', v5, e5', c5, t5, _⟩ := f5.first
    rw [e5] at e5'
    cases e5'
    refine wpAny_handleBy_cons (codeAny_handlers_test ?_) (by intro q; cases q)
    refine ld_glob (X := { X with A := X.A.mark (some (.ref ea)), calm := false, xe := fun _ _ => False }) I5.markTo hg hm ?_ hd
    have LT : PySem.W.Looks (model X.prog X.w) h5 (typeOf (.ref ea)) (.ref C) := c5 ▸ (PySem.W.Looks.ld e5).andThen .now
    refine PySem.W.exm_one I5.kIn LT htrue _ _ _ _ (fun _ _ e => e) ?_
    refine codeAny_handlers_suite_as ?_
    refine wpAny_mono (KD.any (E := fun _ _ => False) (kd_flight _ _) (lands_againW (s := { s' with heap := h5 }) (Q := fun _ s'' => ∃ h6, s'' = { s' with heap := h6 } ∧ Heap.FlyingW B X.stack ea (.ref C) (.ref t) h6 ∧ h5.UpToSlots h6) f5 fun h6 x1 x2 => ⟨h6, rfl, x1, x2⟩)) ?_ (fun _ _ z => False.elim z.1)
    rintro _ _ ⟨⟨h6, rfl, f6, sm6⟩, dk6⟩
    obtain ⟨o6, e6, _, d6, g6⟩ := dk6 ea o5 e5
    have I6 := mk h6 f6 ((sm4.trans sm5).trans sm6) ⟨o6, e6, (hdo.dk d5 g5).dk d6 g6⟩
    refine store_ok (X := { X with A := X.A.mark (some (.ref ea)), calm := false, xe := fun _ _ => False }) (v := .ref ea) I6.markTo hN hi (.inl hn) rfl (fun s7 I7 => ?_) (.inr hn)
    refine wpAny_mono (hh ea pins s7 _ _ (D.un i) I7 (hE ea _ hea (same_upd hea) upd_same)) (fun f s8 hsp => ?_) (fun _ _ z => False.elim z)
    cases f with
    | next =>
      obtain ⟨σ9, H9, I9, q9⟩ := hsp
      exact unbind_ok (Inv.markFrom I.ok I9) hN hi hn fun s9 J => ⟨_, H9, J, q9⟩
    | brk =>
      obtain ⟨σ9, H9, I9, q9⟩ := hsp
      exact unbind_ok (Inv.markFrom I.ok I9) hN hi hn fun s9 J => ⟨_, H9, J, q9⟩
    | cont =>
      obtain ⟨σ9, H9, I9, q9⟩ := hsp
      exact unbind_ok (Inv.markFrom I.ok I9) hN hi hn fun s9 J => ⟨_, H9, J, q9⟩
    | ret u =>
      obtain ⟨v9, σ9, H9, I9, r9, q9⟩ := hsp
      exact unbind_ok (Inv.markFrom I.ok I9) hN hi hn fun s9 J => ⟨v9, _, H9, J, r9, q9⟩
  · intro f s1 hsp
    cases f with
    | next =>
      obtain ⟨σ9, H9, I9, q9⟩ := hsp
      exact wpAny_execs_nil ⟨σ9, H9, I9.pnFrom, q9⟩
    | brk =>
      obtain ⟨σ9, H9, I9, q9⟩ := hsp
      exact ⟨σ9, H9, I9.pnFrom, q9⟩
    | cont =>
      obtain ⟨σ9, H9, I9, q9⟩ := hsp
      exact ⟨σ9, H9, I9.pnFrom, q9⟩
    | ret u =>
      obtain ⟨v9, σ9, H9, I9, r9, q9⟩ := hsp
      exact ⟨v9, σ9, H9, I9.pnFrom, r9, q9⟩
end
theorem ap_tryE {K : PySem.W.Frag} {tb : (St → XK) → TS} {CE : Addr} {i : Nat} {th : Addr → TS} {D : Ends} {σ : St} {H : Hp} : sTryE K tb CE i th D σ H =
  tb (fun σ' c d H' => PySem.W.exmOne K c (.ref CE) = some true ∧ ∀ ea H2, H' ea = none → Same H' H2 → H2 ea = some (excO ea c d) → th ea (D.un i) (σ'.set i (some (.ref ea))) H2) D σ H := propext Iff.rfl
theorem tryE_go {K : PySem.W.Frag} {tb : (St → XK) → TS} {CE : Addr} {i : Nat} {th : Addr → TS} {D : Ends} {σ : St} {H : Hp} (h : ∀ th', th' = th → sTryE K tb CE i th' D σ H) : sTryE K tb CE i th D σ H := h th rfl
section
variable {X : Cx} {tg : Expr}
theorem ps_forH {iter : Expr} {body : List Stmt} {wi : TI} {g : TG} {tb : TS} {pos : Pos} (hp : PassesOwn (model X.prog X.w) X.A X.env X.xe) (hi : PIH X tg iter wi) (hg : PG X tg g) (hb : PSs X body tb)
    (hs : ∀ x, foldedSetIterable iter X.env x = pure x := by intro _; rfl) : PS X (.For tg iter body [] pos) (tFor wi g tb) := by
  intro pins s σ H D I h
  refine wpAny_For (thn (hi pins s σ H _ I h) fun v s1 h1 => thn h1 fun itv s2 h2 => ?_) hs
  obtain ⟨it, fp, tn, J, H2, e, I2, T, st2, f2, W, ⟨m0, w0⟩, turn⟩ := h2
  subst e
  -- what stays true of the iterator's objects through the loop
  have stat : ∀ {H' : Hp}, (∀ b ∈ fp, H' b = none) → ∀ b ∈ fp, FpOk X pins H' b := fun hn b hb => ⟨hn b hb, (f2 b hb).2⟩
  refine codeAny_forLoop_any (fun n s' => ∃ i σ' H', Inv X pins σ' H' s' ∧ tn i s'.heap ∧ (∀ b ∈ fp, H' b = none) ∧ W i n σ' H') ?_ m0 ⟨0, σ, H2, I2, st2, fun b hb => (f2 b hb).1, w0⟩
  rintro n s3 ⟨i, σ3, H3, I3, st3, fr3, w3⟩
  rcases turn i n σ3 H3 w3 with ⟨stop, qn⟩ | ⟨go, N, hN, step⟩
  · refine wpAny_passesOwn hp (thn (T.done X rfl rfl rfl rfl i pins s3 σ3 H3 X.xe I3 (stat fr3) st3 stop) fun r s4 ⟨hr, I4⟩ => ?_)
    subst hr
    exact wpAny_execs_nil ⟨σ3, H3, I4, qn⟩
  · refine wpAny_passesOwn hp (thn (T.item X rfl rfl rfl rfl i pins s3 σ3 H3 X.xe I3 (stat fr3) st3 go) fun r s4 ⟨u, hr, h4⟩ => ?_)
    subst hr
    refine wpAny_passesOwn hp (thn h4 fun _ s5 ⟨x, H5, I5, r5, y5, st5, fr5⟩ => ?_)
    have I5' := I5.pinned (stat fr5) (T.obj _ _ st5)
    refine wpAny_passesOwn hp (thn (hg _ s5 σ3 H5 x u _ I5' r5 (step x H5 y5)) fun _ s6 ⟨σ6, H6, I6, q6⟩ => ?_)
    refine wpAny_passesOwn hp (thn (hb _ s6 σ6 H6 _ I6 q6) fun f s7 q7 => ?_)
    have again : ∀ {σ7 : St} {H7 : Hp}, Inv X (pins ++ pinsAt fp s5.heap) σ7 H7 s7 → N σ7 H7 → ∃ m, m < n ∧ ∃ i σ' H', Inv X pins σ' H' s7 ∧ tn i s7.heap ∧ (∀ b ∈ fp, H' b = none) ∧ W i m σ' H' := fun {σ7 H7} I7 n7 => by
      obtain ⟨m', hm, w7⟩ := hN σ7 H7 n7
      refine ⟨m', hm, i + 1, σ7, H7, I7.unpinned, T.keep _ _ _ st5 fun b hb o e => (I7.pin (b, o) (List.mem_append_right _ (List.mem_append_right _ (mem_pinsAt hb e)))).1, fun b hb => ?_, w7⟩
      obtain ⟨o, e, d⟩ := T.obj _ _ st5 b hb
      exact (I7.pin (b, o) (List.mem_append_right _ (List.mem_append_right _ (mem_pinsAt hb e)))).2.1
    cases f with
    | next => obtain ⟨σ7, H7, I7, n7⟩ := q7; exact again I7 n7
    | cont => obtain ⟨σ7, H7, I7, n7⟩ := q7; exact again I7 n7
    | brk => obtain ⟨σ7, H7, I7, q7⟩ := q7; exact ⟨σ7, H7, I7.unpinned, q7⟩
    | ret v => obtain ⟨x7, σ7, H7, I7, r7, q7⟩ := q7; exact ⟨x7, σ7, H7, I7.unpinned, r7, q7⟩
end
theorem for_rngH {hd : Option Value} {lo : Int} {n : Nat} {g : TG} {tb : TS} {D : Ends} {σ : St} {H : Hp} (Pv : Nat → St → Hp → Prop) (h0 : Pv 0 σ H) (hin : ∀ σ H, Pv n σ H → HandIn hd H)
    (hs : ∀ i σ H, i < n → Pv i σ H → ∀ N : St → Hp → Prop, (∀ σ' H', Pv (i + 1) σ' H' → N σ' H') → g (.int (lo + i)) σ H fun σ2 H2 => tb { D with nx := N, ct := N, bk := D.nx } σ2 H2) (he : ∀ σ H, Pv n σ H → D.nx σ H) : ForTurns g tb D (ItrH hd lo n) σ H := by
  refine ⟨fun i m σ H => m = n - i ∧ i ≤ n ∧ Pv i σ H, ⟨n, by simp, Nat.zero_le _, h0⟩, ?_⟩
  rintro i m σ H ⟨rfl, hi, p⟩
  by_cases hlt : i < n
  · refine .inr ⟨hlt, Pv (i + 1), fun σ' H' p' => ⟨n - (i + 1), by omega, rfl, hlt, p'⟩, fun x H' y => ?_⟩
    obtain ⟨e, y⟩ := y
    subst e y
    exact hs i σ _ hlt p _ fun _ _ h => h
  · have e : i = n := by omega
    subst e
    exact .inl ⟨⟨Nat.le_refl _, hin _ _ p⟩, he _ _ p⟩
end L2

namespace L2
open PySem PySem.Spec PyProof.Rows
end L2

namespace L2
open PySem PySem.Spec PyProof.Rows
section
variable {K : PySem.W.Frag} {x m q : Str} {st : Stmt} {f C : Addr} {oc : Value} {od an : Option Addr} {osl : Array (Option Value)} {kV doc pm cdv ct : Value}
end
section
variable {P : Program} {w : World} {K : PySem.W.Frag} {h base : Heap} {mg : Str → Option Value} {k : Nat} {x m q : Str} {st : Stmt} {C : Addr} {ps : List Str} {sp : Sp}
end
end L2

namespace L2
open PySem PySem.Spec PyProof.Rows
theorem bind7 {α : Type} {p : List α → Prop} (h : ∀ a b c d f g i, p [a, b, c, d, f, g, i]) (us : List α) (e : us.length = 7) : p us := by
  cases us with
  | nil => cases e
  | cons a r => exact bind6 (p := fun r => p (a :: r)) (h a) r (Nat.succ.inj e)
structure MtdHO (P : Program) (w : World) (K : PySem.W.Frag) (mg : Str → Option Value) (base : Heap) (CX : CXT) (C : Addr) (m : Str) (d n : Nat) (ps : List Str) (spA : Sp → Sp) : Prop where
  ex : ∃ (f : Addr) (fd : FuncData), (∀ k, FnOkS P w K mg base CX (k + d) f fd ps (spHO P w K mg base k n spA)) ∧ Meth K C m f ∧ Binds K fd ps []
  cl : Cls K C
theorem Fun.okH {P : Program} {w : World} {K : PySem.W.Frag} {mg : Str → Option Value} {base : Heap} {x qual : Str} {st : Stmt} {f : Addr} {fd : FuncData} {N ps : List Str} {j k n : Nat} {spA : Sp → Sp} (F : Fun K x qual st f fd) (S : FnScope N ps (defScope st)) (len : ∀ spf vs H Q E, spA spf vs H Q E → vs.length = ps.length)
    (hbody : ∀ (cdv : Value) (A : Around) (outer : List Env) (s : Shared) (H : Hp) (vs : List V) (Q : VK) (E : XK), Room j (A.deeper (envOfC qual (defScope st) s.heap.objs.size f cdv)) → ∀ (lf : Addr) (spf : Sp), vs.getLast? = some (.ref lf) → LamAt H lf → StepOk P w K mg base k n lf spf s H → spA spf vs H Q E →
      ∃ t, PSs (cxOf (CX1 P w) P w K mg base N qual (defScope st) f cdv A outer s H E) (defBody st) t ∧ t { nx := fun _ H' => Q .non H', rt := Q } (start N vs) H) : FnOkS P w K mg base (CX1 P w) (j + 1) f fd ps (spHO P w K mg base k n spA) := by
  obtain ⟨oc, od, kV, doc, pm, an, cdv, ct, osl, rfl, lk, hcd⟩ := F.ex
  exact fn_ofS lk hcd S (fun s vs H Q E ⟨_, _, _, _, _, h⟩ => len _ _ _ _ _ h) fun A outer s H vs Q E hr ⟨lf, spf, h1, h2, h3, h4⟩ => hbody cdv A outer s H vs Q E hr lf spf h1 h2 h3 h4
def tMethHO (C : Addr) (m : Str) (spA : Sp → Sp) (q : Str) (Pt : Addr) (js : List Nat) (te : TE) (E : St → XK) (ta t1 t2 : TE) : TE := fun σ H Q => ta σ H fun x H0 => rMethX C m x H0 fun H0 => t1 σ H0 fun y H1 => t2 σ H1 fun z H2 => H2 Pt = some (tabO q) ∧ ∀ f H', H2 f = none → Same H2 H' → LamAt H' f → spA (fun vs H Q _ => te (vs.map some ++ capSt js σ) H Q) [x, y, z, .ref f] H' Q (E σ)
theorem ap_methHO {C : Addr} {m : Str} {spA : Sp → Sp} {q : Str} {Pt : Addr} {js : List Nat} {te : TE} {E : St → XK} {ta t1 t2 : TE} {σ : St} {H : Hp} {Q : VK} : tMethHO C m spA q Pt js te E ta t1 t2 σ H Q = ta σ H fun x H0 => rMethX C m x H0 fun H0 => t1 σ H0 fun y H1 => t2 σ H1 fun z H2 => H2 Pt = some (tabO q) ∧ ∀ f H', H2 f = none → Same H2 H' → LamAt H' f → spA (fun vs H Q _ => te (vs.map some ++ capSt js σ) H Q) [x, y, z, .ref f] H' Q (E σ) := propext Iff.rfl
def tMethHV (C : Addr) (m : Str) (spA : Sp → Sp) (lf : Addr) (spf : Sp) (E : St → XK) (ta tv : TE) : TE := fun σ H Q => ta σ H fun x H0 => rMethX C m x H0 fun H0 => tv σ H0 fun y H1 => y = .ref lf ∧ LamAt H1 lf ∧ spA spf [x, .ref lf] H1 Q (E σ)
theorem ap_methHV {C : Addr} {m : Str} {spA : Sp → Sp} {lf : Addr} {spf : Sp} {E : St → XK} {ta tv : TE} {σ : St} {H : Hp} {Q : VK} : tMethHV C m spA lf spf E ta tv σ H Q = ta σ H fun x H0 => rMethX C m x H0 fun H0 => tv σ H0 fun y H1 => y = .ref lf ∧ LamAt H1 lf ∧ spA spf [x, .ref lf] H1 Q (E σ) := propext Iff.rfl
section
variable {X : Cx}
theorem pe_methHO {pl : Sem Bool} {E : St → XK} {k d n : Nat} {C : Addr} {m q : Str} {gps ps fr : List Str} {js : List Nat} {spA : Sp → Sp} {o e1 e2 : Expr} {ta t1 t2 te : TE} {apos pos lpos : Pos} {params : Arguments} {body : Expr} {scope : Scope} {cl : List (Str × Addr)} {c Pt : Addr}
    (M : MtdHO X.prog X.w X.K X.mg X.base (CX1 X.prog X.w) C m d n gps spA) (hn : ps.length = n) (hg4 : gps.length = 4) (hx : Passes (CX1 X.prog X.w) X E) (hr : Room (k + 1 + d) X.A) (he : PE X o ta) (h1 : PE X e1 t1) (h2 : PE X e2 t2)
    (hcd : X.env.code = .ref c) (hC : PySem.W.codeHdIn X.K c Pt = true) (hq : X.env.qual ++ "<lambda>" = q) (hcl : clo X.env.cells scope.names [] = some cl) (hcap : Caps X scope fr js)
    (hbind : ∀ (pm ctv : Value) (c' : Addr) (us : List Value), us.length = ps.length → bindArgs (PySem.W.kla_fn "<lambda>" q params body scope cl pm (.ref c') ctv) ⟨us, []⟩ = pure (ps.zip us))
    (hbody : ∀ (f c' : Addr) (A : Around) (outer : List Env) (s : Shared) (H : Hp), Room k (A.deeper (PySem.W.envX q scope s.heap.objs.size f (.ref c') cl)) → PE (cxLam X.prog X.w X.K X.mg X.base (ps ++ fr) q scope f (.ref c') cl A outer s H) body te)
    (hps : ∀ y ∈ ps, scope.names.lookup y = some .local) (hnd : ps.Nodup)
    (hd : defaultsOf params X.env = ([], []) := by rfl)
    (hco : scope.isCoroutine = false := by rfl) (hgen : scope.isGenerator = false := by rfl) (hk : scope.kind = .function := by rfl) (hcell : ∀ y ∈ scope.names, y.2 ≠ .cell := by decide +kernel)
    (hs : noStars [e1, e2, .Lambda params body scope lpos] = true := by kernel_rfl)
    (ht : eval (.Call (.Attribute o m apos) [e1, e2, .Lambda params body scope lpos] [] pos) X.env = (do
      let ov ← eval o X.env
      standAt apos.atName
      let (f, first) ← holding [ov] (getMethod ov m pl)
      callWith pos f first (backTo pos (starEach [e1, e2, .Lambda params body scope lpos] X.env)) (backToKw pos (keywordEach [] X.env))) := by rfl) :
    PE X (.Call (.Attribute o m apos) [e1, e2, .Lambda params body scope lpos] [] pos) (tMethHO C m spA q Pt js te E ta t1 t2) := by
  obtain ⟨g, fd, F, hm, hb⟩ := M.ex
  have s1 := noStars_tail hs
  have s2 := noStars_tail s1.2
  have s3 := noStars_tail s2.2
  intro pins s σ H Q I h
  refine PySem.W.methodCall_KW (pl := pl) (thn (he pins s σ H _ I h) fun u s0 ⟨x, H0, I0, rx, q0⟩ => ?_) ht
  cases x <;> try exact q0.elim
  next a =>
  obtain ⟨dx, fs, ea, l, q1⟩ := q0
  obtain rfl : u = Value.ref a := rx
  refine getmeth_ok I0 ea M.cl hm l ?_
  refine PySem.W.callWith_K (first := [.ref a]) (h₀ := X.base) I.ok.mod.kin hm.kp ?_ (starEach_cons s1.1) (backTo_any s1.2)
  rw [starEach_cons s1.1, starEach_cons s2.1, starEach_cons s3.1]
  refine Calls.spliced_cons (thn (h1 pins s0 σ H0 _ I0 q1) fun u1 sa ⟨x1, Ha, Ia, ra, qa⟩ => ?_)
  refine Calls.spliced_cons (thn (h2 pins sa σ Ha _ Ia qa) fun u2 sb ⟨x2, Hb, Ib, rb, hP, qb⟩ => ?_)
  refine Calls.spliced_cons (lam_makeT Ib hP hcd hC hq hd hcl fun f c' ctv H' s' I' sm hn' hf hc => ?_)
  refine Calls.spliced_nil ⟨I'.kIn, ?_⟩
  have la : LamAt H' f := ⟨_, _, _, _, _, _, _, _, _, hf⟩
  have st := lam_step (k := k) I' hf hc hcl (hbind _ _ _) hco hgen hk hcell hps hnd hcap (fun A outer s H hr => hbody f c' A outer s H hr)
  rw [hn] at st
  have r : Vals [.ref a, x1, x2, .ref f] [.ref a, u1, u2, .ref f] := .cons rfl (.cons ra (.cons rb (.cons rfl .nil)))
  refine wpAny_call (codeAny_mono ((F (k + 1)).run X.A X.stack s' H' ⟨[.ref a, u1, u2, .ref f], []⟩ [.ref a, u1, u2, .ref f] [.ref a, x1, x2, .ref f] Q (E σ) hr I'.env0 (by have := hb s' [.ref a, u1, u2, .ref f] I'.kIn (by rw [hg4]; rfl); simpa using this) r ⟨f, _, rfl, la, st, qb f H' hn' sm la⟩) fun r s'' hq => ?_)
  cases r with
  | error e => exact hx pins σ H' s' e s'' I' hq
  | ok fl =>
    cases fl with
    | ret u => exact I'.after hq
    | next => exact False.elim hq
    | brk => exact False.elim hq
    | cont => exact False.elim hq
theorem pe_methHV {pl : Sem Bool} {E : St → XK} {k d n : Nat} {C lf : Addr} {m : Str} {gps : List Str} {spA : Sp → Sp} {spf : Sp} {o ev : Expr} {ta tv : TE} {apos pos : Pos}
    (M : MtdHO X.prog X.w X.K X.mg X.base (CX1 X.prog X.w) C m d n gps spA) (S : StepOk X.prog X.w X.K X.mg X.base k n lf spf X.s₀ X.H₀) (hex : X.ex = []) (hg2 : gps.length = 2) (hx : Passes (CX1 X.prog X.w) X E) (hr : Room (k + d) X.A) (he : PE X o ta) (hv : PE X ev tv)
    (hs : noStars [ev] = true := by kernel_rfl)
    (ht : eval (.Call (.Attribute o m apos) [ev] [] pos) X.env = (do
      let ov ← eval o X.env
      standAt apos.atName
      let (f, first) ← holding [ov] (getMethod ov m pl)
      callWith pos f first (backTo pos (starEach [ev] X.env)) (backToKw pos (keywordEach [] X.env))) := by rfl) :
    PE X (.Call (.Attribute o m apos) [ev] [] pos) (tMethHV C m spA lf spf E ta tv) := by
  obtain ⟨g, fd, F, hm, hb⟩ := M.ex
  have s1 := noStars_tail hs
  intro pins s σ H Q I h
  refine PySem.W.methodCall_KW (pl := pl) (thn (he pins s σ H _ I h) fun u s0 ⟨x, H0, I0, rx, q0⟩ => ?_) ht
  cases x <;> try exact q0.elim
  next a =>
  obtain ⟨dx, fs, ea, l, q1⟩ := q0
  obtain rfl : u = Value.ref a := rx
  refine getmeth_ok I0 ea M.cl hm l ?_
  refine PySem.W.callWith_K (first := [.ref a]) (h₀ := X.base) I.ok.mod.kin hm.kp ?_ (starEach_cons s1.1) (backTo_any s1.2)
  rw [starEach_cons s1.1]
  refine Calls.spliced_cons (thn (hv pins s0 σ H0 _ I0 q1) fun u1 s' ⟨x1, H', I', ra, e1, la, qa⟩ => ?_)
  refine Calls.spliced_nil ⟨I'.kIn, ?_⟩
  subst e1
  obtain rfl : u1 = Value.ref lf := ra
  have ub := I'.base
  rw [hex] at ub
  have st := S.later (s₁ := s') ⟨_, ub⟩
  have r : Vals [.ref a, .ref lf] [.ref a, .ref lf] := .cons rfl (.cons rfl .nil)
  refine wpAny_call (codeAny_mono ((F k).run X.A X.stack s' H' ⟨[.ref a, .ref lf], []⟩ [.ref a, .ref lf] [.ref a, .ref lf] Q (E σ) hr I'.env0 (by have := hb s' [.ref a, .ref lf] I'.kIn (by rw [hg2]; rfl); simpa using this) r ⟨lf, _, rfl, la, st, qa⟩) fun r s'' hq => ?_)
  cases r with
  | error e => exact hx pins σ H' s' e s'' I' hq
  | ok fl =>
    cases fl with
    | ret u => exact I'.after hq
    | next => exact False.elim hq
    | brk => exact False.elim hq
    | cont => exact False.elim hq
end
end L2

namespace Kb
open PySem L2
seal L2.PE L2.PA L2.PS L2.PSs L2.PT L2.PW L2.PG L2.PGs L2.PI L2.PO L2.PSet L2.PIf
def top (i : Nat) : Stmt := PySem.Challenge.pw_cablehouse_k37_numbers_kept.main.body.getD i (.Pass ⟨0, 0, 0, 0⟩)
abbrev s_is_whole : Stmt := top 11
abbrev s_common_divisor : Stmt := top 12
abbrev s_are_safe : Stmt := top 13
abbrev s_is_alphabet : Stmt := top 16
abbrev s_is_below : Stmt := top 17
abbrev s_are_weights : Stmt := top 18
abbrev s_Code_init : Stmt := inClass (top 24) 0
abbrev s_Code_many : Stmt := inClass (top 24) 4
abbrev s_are_letters : Stmt := top 27
abbrev s_are_words : Stmt := top 28
abbrev s_is_entry : Stmt := top 33
abbrev s_Book_init : Stmt := inClass (top 34) 0
abbrev s_Book_put : Stmt := inClass (top 34) 2
abbrev s_Book_choose : Stmt := inClass (top 34) 3
abbrev s_Book_least_free : Stmt := inClass (top 34) 4
abbrev s_Book_strike : Stmt := inClass (top 34) 5
abbrev s_Book_number : Stmt := inClass (top 34) 7
abbrev s_is_day : Stmt := top 38
abbrev s_Editions_init : Stmt := inClass (top 39) 0
abbrev s_Editions_put : Stmt := inClass (top 39) 1
abbrev s_Editions_strike : Stmt := inClass (top 39) 2
abbrev s_Editions_check_change : Stmt := inClass (top 39) 5
abbrev s_Editions_is_barred : Stmt := inClass (top 39) 6
abbrev s_Editions_note_change : Stmt := inClass (top 39) 7
abbrev s_law_cell_at : Stmt := top 41
abbrev s_law_mixed : Stmt := top 43
abbrev s_law_apart : Stmt := top 44
abbrev s_law_weights : Stmt := top 45
abbrev s_law_code_parts : Stmt := top 46
abbrev s_law_many : Stmt := top 47
abbrev s_law_pool : Stmt := top 48
abbrev s_law_did : Stmt := top 54
abbrev s_law_filled : Stmt := top 55
abbrev s_law_fresh : Stmt := top 56
abbrev s_law_kept_days : Stmt := top 57
abbrev s_law : Stmt := top 58
structure Bl (mg : Str → Option Value) : Prop where
  isinstance : mg "isinstance" = none
  bool : mg "bool" = none
  int : mg "int" = none
  abs : mg "abs" = none
  all : mg "all" = none
  zip : mg "zip" = none
  len : mg "len" = none
  set : mg "set" = none
  str : mg "str" = none
  list : mg "list" = none
  tuple : mg "tuple" = none
  range : mg "range" = none
  ValueError : mg "ValueError" = none
  max : mg "max" = none
  min : mg "min" = none
structure Ads where
  Code : Addr
  Book : Addr
  Editions : Addr
  CableError : Addr
  NoCode : Addr
  NoNumber : Addr
  NoWord : Addr
  NoEntry : Addr
  Twice : Addr
  TooMany : Addr
  NoDay : Addr
  cd : Addr
  tb : Addr
  cd1 : Addr
  tb1 : Addr
  none : Unit := ()
def Ads.errs (Ad : Ads) : List Addr := [Ad.NoCode, Ad.NoNumber, Ad.NoWord, Ad.NoEntry, Ad.Twice, Ad.TooMany, Ad.NoDay]
structure AdF (K : PySem.W.Frag) (mg : Str → Option Value) (Ad : Ads) : Prop where
  g_Code : mg "Code" = some (.ref Ad.Code)
  g_Book : mg "Book" = some (.ref Ad.Book)
  g_Editions : mg "Editions" = some (.ref Ad.Editions)
  g_CableError : mg "CableError" = some (.ref Ad.CableError)
  g_NoCode : mg "NoCode" = some (.ref Ad.NoCode)
  g_NoNumber : mg "NoNumber" = some (.ref Ad.NoNumber)
  g_NoWord : mg "NoWord" = some (.ref Ad.NoWord)
  g_NoEntry : mg "NoEntry" = some (.ref Ad.NoEntry)
  g_Twice : mg "Twice" = some (.ref Ad.Twice)
  g_TooMany : mg "TooMany" = some (.ref Ad.TooMany)
  g_NoDay : mg "NoDay" = some (.ref Ad.NoDay)
  c_Code : Cls K Ad.Code
  n_Code_letters : NoAttr K Ad.Code "letters"
  n_Code_factors : NoAttr K Ad.Code "factors"
  n_Code_remainder : NoAttr K Ad.Code "remainder"
  c_Book : Cls K Ad.Book
  n_Book_basis : NoAttr K Ad.Book "basis"
  n_Book_by_number : NoAttr K Ad.Book "by_number"
  n_Book_by_entry : NoAttr K Ad.Book "by_entry"
  c_Editions : Cls K Ad.Editions
  n_Editions_current : NoAttr K Ad.Editions "current"
  n_Editions_changes : NoAttr K Ad.Editions "changes"
  n_Editions_struck : NoAttr K Ad.Editions "struck"
  n_Editions_latest : NoAttr K Ad.Editions "latest"
  q_NoCode : PySem.W.excIn K Ad.NoCode [.type "ValueError", .type "Exception", .type "BaseException", .type "object"] "ValueError.__new__" = true
  q_NoNumber : PySem.W.excIn K Ad.NoNumber [.type "ValueError", .type "Exception", .type "BaseException", .type "object"] "ValueError.__new__" = true
  q_NoWord : PySem.W.excIn K Ad.NoWord [.type "ValueError", .type "Exception", .type "BaseException", .type "object"] "ValueError.__new__" = true
  q_NoEntry : PySem.W.excIn K Ad.NoEntry [.type "ValueError", .type "Exception", .type "BaseException", .type "object"] "ValueError.__new__" = true
  q_Twice : PySem.W.excIn K Ad.Twice [.type "ValueError", .type "Exception", .type "BaseException", .type "object"] "ValueError.__new__" = true
  q_TooMany : PySem.W.excIn K Ad.TooMany [.type "ValueError", .type "Exception", .type "BaseException", .type "object"] "ValueError.__new__" = true
  q_NoDay : PySem.W.excIn K Ad.NoDay [.type "ValueError", .type "Exception", .type "BaseException", .type "object"] "ValueError.__new__" = true
  t_tab : PySem.W.codeHdIn K Ad.cd Ad.tb = true
  t_tab1 : PySem.W.codeHdIn K Ad.cd1 Ad.tb1 = true
  err : errAll K Ad.CableError Ad.errs = true
  nd : ndB Ad.errs = true
  v_SMALL_LETTERS : ∃ u, mg "SMALL_LETTERS" = some u ∧ RelV (.str "abcdefghijklmnopqrstuvwxyz") u
  v_LONGEST_WORD : ∃ u, mg "LONGEST_WORD" = some u ∧ RelV (.int 20) u
  v_MOST_ENTRIES : ∃ u, mg "MOST_ENTRIES" = some u ∧ RelV (.int 300) u
  v_MOST_PHRASE_WORDS : ∃ u, mg "MOST_PHRASE_WORDS" = some u ∧ RelV (.int 6) u
  v_MOST_PART_LETTERS : ∃ u, mg "MOST_PART_LETTERS" = some u ∧ RelV (.int 6) u
  v_LATEST_DAY : ∃ u, mg "LATEST_DAY" = some u ∧ RelV (.int 1000000000) u
  v_DAYS_BARRED : ∃ u, mg "DAYS_BARRED" = some u ∧ RelV (.int 31) u
section
variable {P : Program} {w : World} {K : PySem.W.Frag} {mg : Str → Option Value} {base : Heap} {Ad : Ads}
local macro_rules | `(tactic| and_intros) => `(tactic| try simp only [ap_fld, rFldX, ap_sfld, rSetX, ap_meth, rMethX, ap_make, ap_raise, ap_unp, ap_gcons, ap_gnil, rIsiG, Ends.un, putF, ap_asg, ap_gname, ap_var, ap_c, ap_op, ap_cb, ap_cons, ap_nil, ap_call, ap_ret, ap_if, ap_next, ap_drop, ap_test, ap_b, ap_not, ap_and, ap_or, ap_andV, ap_orV, ap_notV, ap_ifE, ap_lst, ap_tup, ap_dnew, nw, ap_lc, ap_sl, ap_noPart, ap_part, ap_iSeq, ap_iRng1, ap_iRng2, ap_iZip, ap_for, ap_par, ap_bm, ap_chain, ex_bl, ex_int, ex_ref, ex_int1, ex_int2, ex_ref2, ex_two, ex_some, ap_dget1, ap_dnewT, ap_dput, rIsX, isV, tagV, tagO, Tg.sub, Tg.name, rU, rInX, Option.join_some, Int.toNat_natCast, List.getElem?_cons_zero, List.getElem?_cons_succ, List.set_cons_zero, List.set_cons_succ, start_eq, List.map_cons, List.map_nil, List.cons_append, List.nil_append, List.length_cons, List.length_nil, List.replicate_succ, List.replicate_zero, Nat.reduceAdd, Nat.reduceSub, Nat.zero_add, bne_self_eq_false, Bool.true_bne, Bool.false_bne, Bool.not_true, Bool.not_false, if_true, if_false, Bool.false_eq_true, Bool.true_eq_false, reduceIte, ev_rAddX_1, ev_rAddX_2, ev_rAddX_3, ev_rSubX_1, ev_rMulX_1, ev_rFdivX_1, ev_rModX_1, ev_rPowX_1, ev_rCmpX_1, ev_rGeL_1, ev_rEqX_1, ev_rEqX_3, ev_rEqX_4, ev_rNeX_1, ev_rNeX_3, ev_rIxX_1, ev_rIxX_2, ev_rLenX_1, ev_rLenX_2, ev_rAbsX_1, ev_rMinX_1, ev_rMaxX_1, ev_rListX_1, ev_rRngX_1, ev_rIsiC_1, ev_rSlY_1, ev_rJoinS_1, ev_rSplit_1, ev_rMulS_1, ev_rSetS_1, ev_rLenT_1, ev_iSeqV_1, ev_iSeqV_2, ev_rNeQ, ap_methHO, ap_methHV, ap_callS, ap_tryE, ap_iRng1H, ev_rPopK, ev_rPopT])
local macro_rules | `(tactic| ac_nf) => `(tactic| try simp only [ap_seq, ap_fld, rFldX, ap_sfld, rSetX, ap_meth, rMethX, ap_make, ap_raise, ap_unp, ap_gcons, ap_gnil, rIsiG, Ends.un, putF, ap_asg, ap_gname, ap_var, ap_c, ap_op, ap_cb, ap_cons, ap_nil, ap_call, ap_ret, ap_if, ap_next, ap_drop, ap_test, ap_b, ap_not, ap_and, ap_or, ap_andV, ap_orV, ap_notV, ap_ifE, ap_lst, ap_tup, ap_dnew, nw, ap_lc, ap_sl, ap_noPart, ap_part, ap_iSeq, ap_iRng1, ap_iRng2, ap_iZip, ap_for, ap_par, ap_bm, ap_chain, ex_bl, ex_int, ex_ref, ex_int1, ex_int2, ex_ref2, ex_two, ex_some, ap_dget1, ap_dnewT, ap_dput, rIsX, isV, tagV, tagO, Tg.sub, Tg.name, rU, rInX, Option.join_some, Int.toNat_natCast, List.getElem?_cons_zero, List.getElem?_cons_succ, List.set_cons_zero, List.set_cons_succ, start_eq, List.map_cons, List.map_nil, List.cons_append, List.nil_append, List.length_cons, List.length_nil, List.replicate_succ, List.replicate_zero, Nat.reduceAdd, Nat.reduceSub, Nat.zero_add, bne_self_eq_false, Bool.true_bne, Bool.false_bne, Bool.not_true, Bool.not_false, if_true, if_false, Bool.false_eq_true, Bool.true_eq_false, reduceIte, ev_rAddX_1, ev_rAddX_2, ev_rAddX_3, ev_rSubX_1, ev_rMulX_1, ev_rFdivX_1, ev_rModX_1, ev_rPowX_1, ev_rCmpX_1, ev_rGeL_1, ev_rEqX_1, ev_rEqX_3, ev_rEqX_4, ev_rNeX_1, ev_rNeX_3, ev_rIxX_1, ev_rIxX_2, ev_rLenX_1, ev_rLenX_2, ev_rAbsX_1, ev_rMinX_1, ev_rMaxX_1, ev_rListX_1, ev_rRngX_1, ev_rIsiC_1, ev_rSlY_1, ev_rJoinS_1, ev_rSplit_1, ev_rMulS_1, ev_rSetS_1, ev_rLenT_1, ev_iSeqV_1, ev_iSeqV_2, ev_rNeQ, ap_methHO, ap_methHV, ap_callS, ap_tryE, ap_iRng1H, ev_rPopK, ev_rPopT])
local macro_rules | `(tactic| bv_omega) => `(tactic| try simp only [ex_bl, ex_int, ex_ref, Bool.not_false, Bool.not_true, if_true, if_false, Bool.false_eq_true, Bool.true_eq_false, true_and, and_true])
structure CodeOk (al : List Nat) (ws : List Int) (r : Int) : Prop where
  a3 : 3 ≤ al.length
  a26 : al.length ≤ 26
  nd : al.Nodup
  abc : ∀ c ∈ al, 97 ≤ c ∧ c < 123
  w3 : 3 ≤ ws.length
  w8 : ws.length ≤ 8
  wm : ∀ x ∈ ws, 0 ≤ x ∧ x < (al.length : Int)
  safe : Mk.safe al.length ws = true
  rm : 0 ≤ r ∧ r < (al.length : Int)
def codeF (al : List Nat) (q : Addr) (r : Int) : List (Str × V) := [("letters", .str (tx al)), ("factors", .ref q), ("remainder", .int r)]
theorem codeF_letters (al : List Nat) (q : Addr) (r : Int) : (codeF al q r).lookup ("letters" : Str) = some (V.str (tx al)) := rfl
theorem codeF_factors (al : List Nat) (q : Addr) (r : Int) : (codeF al q r).lookup ("factors" : Str) = some (V.ref q) := rfl
theorem codeF_none {m : Str} (h1 : m ≠ ("letters" : Str)) (h2 : m ≠ ("factors" : Str)) (h3 : m ≠ ("remainder" : Str)) (al : List Nat) (q : Addr) (r : Int) : (codeF al q r).lookup m = none := by
  unfold codeF
  rw [List.lookup_cons, List.lookup_cons, List.lookup_cons, beq_false_of_ne h1, beq_false_of_ne h2, beq_false_of_ne h3]
  rfl
def CodeAt (Ad : Ads) (H : Hp) (a : Addr) (al : List Nat) (ws : List Int) (r : Int) : Prop := ∃ dx q, H a = some (.ins Ad.Code dx (codeF al q r)) ∧ H q = some (.lst (ws.map V.int))
theorem CodeAt.same {Ad : Ads} {H H' : Hp} {a : Addr} {al : List Nat} {ws : List Int} {r : Int} (h : CodeAt Ad H a al ws r) (s : Same H H') : CodeAt Ad H' a al ws r := by
  obtain ⟨dx, q, h1, h2⟩ := h
  exact ⟨dx, q, s _ _ h1, s _ _ h2⟩
def Parts (H : Hp) (p : Addr) (q : Addr) (al : List Nat) (ws : List Int) (r : Int) : Prop := H p = some (.lst [.str (tx al), .ref q, .int r]) ∧ H q = some (.lst (ws.map V.int))
def codeMade (H : Hp) (xa xw xr : V) (al : List Nat) (p : Addr) (ws : List Int) (r : Int) : Prop := xa = .str (tx al) ∧ xw = .ref p ∧ H p = some (.lst (ws.map V.int)) ∧ xr = .int r ∧ CodeOk al ws r
def codeBad (H : Hp) (xa xw xr : V) : Prop := ∀ al p ws r, ¬ codeMade H xa xw xr al p ws r


def areLet (n : Nat) (l : List Nat) : Bool := decide (1 ≤ l.length) && decide (l.length ≤ n) && l.all fun c => decide (97 ≤ c ∧ c < 123)
def areLetV (n : Nat) : V → Bool
  | .str z => areLet n z.cps.toList
  | _ => false
def areWds (n : Nat) (l : List Nat) : Bool := decide ((Mk.splitL 32 l).length ≤ n) && (Mk.splitL 32 l).all (areLet 20)
def areWdsV (n : Nat) : V → Bool
  | .str z => areWds n z.cps.toList
  | _ => false
def isEntL : List V → Bool
  | [.str z] => decide (z = ("end" : Str))
  | [.str z, y] => if z = ("phrase" : Str) then areWdsV 6 y else if z = ("part" : Str) then areLetV 6 y else false
  | _ => false
def isEntV (H : Hp) : V → Bool
  | .ref p => match H p with
    | some (.tup xs) => isEntL xs
    | _ => false
  | _ => false
theorem areLet_of {n : Nat} {l : List Nat} (h1 : 1 ≤ l.length) (h2 : l.length ≤ n) (h3 : ∀ c ∈ l, 97 ≤ c ∧ c < 123) : areLet n l = true := by
  unfold areLet
  rw [decide_eq_true h1, decide_eq_true h2, Bool.true_and, Bool.true_and, List.all_eq_true]
  exact fun c hc => decide_eq_true (h3 c hc)
theorem areWds_of {n : Nat} {ws : List (List Nat)} (h1 : 1 ≤ ws.length) (h2 : ws.length ≤ n) (h3 : ∀ w ∈ ws, 1 ≤ w.length ∧ w.length ≤ 20 ∧ ∀ c ∈ w, 97 ≤ c ∧ c < 123) : areWds n (Mk.joinL 32 ws) = true := by
  unfold areWds
  rw [Mk.split_joinL ws (fun e => by rw [e] at h1; simp at h1) fun w hw hc => by have := (h3 w hw).2.2 32 hc; omega, decide_eq_true h2, Bool.true_and, List.all_eq_true]
  exact fun w hw => areLet_of (h3 w hw).1 (h3 w hw).2.1 (h3 w hw).2.2
def lamQ : Str := "Book.put.<locals>.<lambda>"
structure Ben where
  num : Int
  key : List Key
  adr : Addr
def bookF (ca dn de : Addr) : List (Str × V) := [("basis", .ref ca), ("by_number", .ref dn), ("by_entry", .ref de)]
theorem bookF_basis (p q r : Addr) : (bookF p q r).lookup ("basis" : Str) = some (V.ref p) := rfl
theorem bookF_num (p q r : Addr) : (bookF p q r).lookup ("by_number" : Str) = some (V.ref q) := rfl
theorem bookF_ent (p q r : Addr) : (bookF p q r).lookup ("by_entry" : Str) = some (V.ref r) := rfl
theorem bookF_none {m : Str} (h1 : m ≠ ("basis" : Str)) (h2 : m ≠ ("by_number" : Str)) (h3 : m ≠ ("by_entry" : Str)) (p q r : Addr) : (bookF p q r).lookup m = none := by
  unfold bookF
  rw [List.lookup_cons, List.lookup_cons, List.lookup_cons, beq_false_of_ne h1, beq_false_of_ne h2, beq_false_of_ne h3]
  rfl
def numD (es : List Ben) : List (Key × V) := (es.map fun e => (e.num, V.ref e.adr)).map fun q => (.inl q.1, q.2)
def entD (es : List Ben) : List (List Key × V) := es.map fun e => (e.key, V.int e.num)
structure BookAt (Ad : Ads) (H : Hp) (b ca dn de : Addr) (es : List Ben) : Prop where
  bk : ∃ dx, H b = some (.ins Ad.Book dx (bookF ca dn de))
  hn : H dn = some (.dK (numD es))
  he : H de = some (.dT (entD es))
  en : ∀ e ∈ es, H e.adr = some (.tup (e.key.map kV))
  nn : (es.map (·.num)).Nodup
  nk : (es.map (·.key)).Nodup
theorem BookAt.same {Ad : Ads} {H H' : Hp} {b ca dn de : Addr} {es : List Ben} (h : BookAt Ad H b ca dn de es) (s : Same H H') : BookAt Ad H' b ca dn de es := by
  obtain ⟨⟨dx, h1⟩, h2, h3, h4, h5, h6⟩ := h
  exact ⟨⟨dx, s _ _ h1⟩, s _ _ h2, s _ _ h3, fun e he => s _ _ (h4 e he), h5, h6⟩
theorem val_map {α κ : Type} [DecidableEq κ] {f : α → κ} {g : α → V} : ∀ {es : List α} {e : α}, (es.map f).Nodup → e ∈ es → valV (es.map fun x => (f x, g x)) (f e) = some (g e)
  | x :: r, e, hn, he => by
    obtain ⟨h1, h2⟩ := List.nodup_cons.mp hn
    unfold valV
    rw [List.map_cons, List.find?_cons]
    by_cases h : f x = f e
    · rw [decide_eq_true h]
      rcases List.mem_cons.mp he with rfl | he
      · rfl
      · exact absurd (List.mem_map_of_mem (f := f) he) (by rw [← h]; exact h1)
    · rw [decide_eq_false h]
      rcases List.mem_cons.mp he with rfl | he
      · exact absurd rfl h
      · exact val_map h2 he
theorem val_no {α κ : Type} [DecidableEq κ] {f : α → κ} {g : α → V} {k : κ} : ∀ {es : List α}, k ∉ es.map f → valV (es.map fun x => (f x, g x)) k = none
  | [], _ => rfl
  | x :: r, h => by
    rw [List.map_cons, List.mem_cons, not_or] at h
    unfold valV
    rw [List.map_cons, List.find?_cons, decide_eq_false (show ¬ f x = k from fun e => h.1 e.symm)]
    exact val_no h.2
theorem numD_eq (es : List Ben) : numD es = es.map fun e => (.inl e.num, V.ref e.adr) := by unfold numD; rw [List.map_map]; rfl
theorem inl_nd {es : List Ben} (h : (es.map (·.num)).Nodup) : (es.map fun e => (.inl e.num : Key)).Nodup := by
  have e : (es.map fun e => (.inl e.num : Key)) = (es.map (·.num)).map Sum.inl := by rw [List.map_map]; rfl
  rw [e]
  exact List.Pairwise.map _ (fun a b (h : a ≠ b) z => h (Sum.inl.inj z)) h
theorem num_val {es : List Ben} {e : Ben} (hn : (es.map (·.num)).Nodup) (he : e ∈ es) : valV (numD es) (.inl e.num) = some (.ref e.adr) := by
  rw [numD_eq]; exact val_map (f := fun e : Ben => (.inl e.num : Key)) (inl_nd hn) he
theorem num_no {es : List Ben} {k : Int} (h : k ∉ es.map (·.num)) : valV (numD es) (.inl k) = none := by
  rw [numD_eq]
  refine val_no (f := fun e : Ben => (.inl e.num : Key)) fun m => h ?_
  obtain ⟨e, he, ee⟩ := List.mem_map.mp m
  exact List.mem_map.mpr ⟨e, he, Sum.inl.inj ee⟩
theorem num_is {es : List Ben} {k : Int} (hn : (es.map (·.num)).Nodup) : (valV (numD es) (.inl k)).isSome = decide (k ∈ es.map (·.num)) := by
  by_cases h : k ∈ es.map (·.num)
  · obtain ⟨e, he, rfl⟩ := List.mem_map.mp h
    rw [num_val hn he, decide_eq_true h]; rfl
  · rw [num_no h, decide_eq_false h]; rfl
theorem ent_val {es : List Ben} {e : Ben} (hn : (es.map (·.key)).Nodup) (he : e ∈ es) : valV (entD es) e.key = some (.int e.num) := val_map (f := fun e : Ben => e.key) hn he
theorem ent_no {es : List Ben} {k : List Key} (h : k ∉ es.map (·.key)) : valV (entD es) k = none := val_no (f := fun e : Ben => e.key) h
theorem put_new {κ : Type} [DecidableEq κ] {kvs : List (κ × V)} {k : κ} {v : V} (h : valV kvs k = none) : putK kvs k v = kvs ++ [(k, v)] := by
  unfold putK
  rw [valV_any, h]
  rfl
theorem numD_snoc (es : List Ben) (e : Ben) : numD (es ++ [e]) = numD es ++ [(.inl e.num, .ref e.adr)] := by unfold numD; simp
theorem entD_snoc (es : List Ben) (e : Ben) : entD (es ++ [e]) = entD es ++ [(e.key, .int e.num)] := by unfold entD; simp
theorem numD_len (es : List Ben) : (numD es).length = es.length := by unfold numD; simp
structure EnOk (key : List Key) : Prop where
  is : isEntL (key.map kV) = true
  few : key.length ≤ 2
  short : ∀ z, V.str z ∈ key.map kV → z.length ≤ 10000
def ManyI (al : List Nat) (ws : List Int) : Int := (al.length : Int) ^ (ws.length - 1)
theorem entV_of {H : Hp} {t : Addr} {key : List Key} (ht : H t = some (.tup (key.map kV))) (ok : EnOk key) : isEntV H (.ref t) = true := by
  show (match H t with | some (.tup xs) => isEntL xs | _ => false) = true
  rw [ht]; exact ok.is
theorem kV_tag (H : Hp) (z : Key) : ∃ t, tagV H (kV z) = some t := by
  cases z with
  | inl i => exact ⟨.int, rfl⟩
  | inr s => exact ⟨.str, rfl⟩
def EntAt (H : Hp) (p : Addr) : Prop := ∃ (ks : List Key), H p = some (.tup (ks.map kV)) ∧ isEntL (ks.map kV) = true ∧ 1 ≤ ks.length ∧ ks.length ≤ 2 ∧ ∀ z ∈ ks, ∃ l : List Nat, z = .inr (tx l) ∧ l.length ≤ 1000
theorem EntAt.same {H H' : Hp} {p : Addr} (s : Same H H') (h : EntAt H p) : EntAt H' p := by
  obtain ⟨ks, e1, e2⟩ := h
  exact ⟨ks, s _ _ e1, e2⟩
theorem inj_on {α : Type} {f : Ben → α} {es : List Ben} {x e : Ben} (hn : (es.map f).Nodup) (hx : x ∈ es) (he : e ∈ es) (h : f x = f e) : x = e := by
  obtain ⟨i, hi, rfl⟩ := List.getElem_of_mem hx
  obtain ⟨j, hj, rfl⟩ := List.getElem_of_mem he
  have := List.pairwise_iff_getElem.mp hn
  rcases Nat.lt_trichotomy i j with l | l | l
  · exact absurd (by rw [List.getElem_map, List.getElem_map]; exact h) (this i j (by rw [List.length_map]; exact hi) (by rw [List.length_map]; exact hj) l)
  · subst l; rfl
  · exact absurd (by rw [List.getElem_map, List.getElem_map]; exact h.symm) (this j i (by rw [List.length_map]; exact hj) (by rw [List.length_map]; exact hi) l)
def mixP (c : Int) : Int := (c % 10 ^ 60 * 314159265358979323846264338327950288419716939937510582097494 + 27182818284590452353602874713527) % (10 ^ 60 + 7)
theorem mixP_nn (c : Int) : 0 ≤ mixP c := Int.emod_nonneg _ (by decide)
theorem abc26 : ∀ i : Nat, i < 26 → (Str.ofString "abcdefghijklmnopqrstuvwxyz").cps.toList[i]? = some (97 + i) := by decide +kernel
structure EntD (H : Hp) (D : Addr) (es : List Ben) : Prop where
  d : Rd H D (.dK (numD es))
  en : ∀ e ∈ es, H e.adr = some (.tup (e.key.map kV))
  nn : (es.map (·.num)).Nodup
theorem EntD.same {H H' : Hp} {D : Addr} {es : List Ben} (h : EntD H D es) (s : Same H H') : EntD H' D es := ⟨h.d.imp (s _ _) fun ⟨o, e⟩ => ⟨o, s _ _ e⟩, fun e he => s _ _ (h.en e he), h.nn⟩
def lamQ1 : Str := "Editions.put.<locals>.<lambda>"
def Bar (spf : Sp) (bar : Int → Bool) (H : Hp) : Prop := ∀ (n : Int) (H' : Hp) (Q : VK), Same H H' → (∀ H'', Same H' H'' → Q (.bl (bar n)) H'') → spf [.int n] H' Q XF
theorem Bar.same {spf : Sp} {bar : Int → Bool} {H H' : Hp} (b : Bar spf bar H) (s : Same H H') : Bar spf bar H' := fun n G Q t k => b n G Q (s.trans t) k
structure LeastB (ns : List Int) (bar : Int → Bool) (n : Int) : Prop where
  pos : 0 ≤ n
  out : n ∉ ns
  fr : bar n = false
  all : ∀ m, 0 ≤ m → m < n → m ∈ ns ∨ bar m = true
def sp_is_whole : Sp := fun vs H Q _ => ∃ x t, vs = [x] ∧ tagV H x = some t ∧ Q (.bl (decide (t = Tg.int))) H
theorem sc_is_whole : FnScope ["thing"] ["thing"] (defScope s_is_whole) := ⟨rfl, rfl, rfl, by decide +kernel, rfl, by decide +kernel, by decide +kernel⟩
theorem ok_is_whole {f : Addr} {fd : FuncData} (F : Fun K "is_whole" "is_whole" s_is_whole f fd) (T : Bl mg) (AF : AdF K mg Ad)  : FnOk P w K mg base (CX1 P w) 1 f fd ["thing"] sp_is_whole := by
  refine F.okX (k := 0) sc_is_whole (fun vs H Q E h => ?_) (fun cdv A outer s H vs Q E hr h => ?_)
  · obtain ⟨x, t, rfl, _⟩ := h
    rfl
  · obtain ⟨x, t, rfl, ht, k⟩ := h
    have hu := hr.units0
    have hu1 := hu_of hr
    refine ⟨_, pss_one (ps_ret (pe_and (pe_callBG (call_isiC .int) T.isinstance bt_isinstance (pa_c (pvL 0) (pa_c (pe_tyG T.int bt_int) (pa_nil)))) (pe_one (pe_not (pe_callBG (call_isiC .bl) T.isinstance bt_isinstance (pa_c (pvL 0) (pa_c (pe_tyG T.bool bt_bool) (pa_nil)))))))), ?_⟩
    ac_nf
    refine ⟨trivial, t, ht, ?_⟩
    cases t <;> (simp only [Tg.sub, if_true, if_false, Bool.false_eq_true, reduceCtorEq]; first | exact k | exact ⟨trivial, _, ht, k⟩)
def sp_common_divisor : Sp := fun vs H Q _ => ∃ a b : Int, vs = [.int a, .int b] ∧ Q (.int ((Int.gcd a b : Nat) : Int)) H
theorem sc_common_divisor : FnScope ["one", "other", "left", "right", "over"] ["one", "other"] (defScope s_common_divisor) := ⟨rfl, rfl, rfl, by decide +kernel, rfl, by decide +kernel, by decide +kernel⟩
theorem ok_common_divisor {f : Addr} {fd : FuncData} (F : Fun K "common_divisor" "common_divisor" s_common_divisor f fd) (T : Bl mg) (AF : AdF K mg Ad)  : FnOk P w K mg base (CX1 P w) 1 f fd ["one", "other"] sp_common_divisor := by
  refine F.okX (k := 0) sc_common_divisor (fun vs H Q E h => ?_) (fun cdv A outer s H vs Q E hr h => ?_)
  · obtain ⟨a, b, rfl, _⟩ := h
    rfl
  · obtain ⟨a, b, rfl, k⟩ := h
    have hu := hr.units0
    have hu1 := hu_of hr
    refine ⟨_, pss_cons (ps_setL (i := 2) sc_common_divisor.nd (pe_callBG call_absX T.abs bt_abs (pa_c (pvL 0) (pa_nil)))) (pss_cons (ps_setL (i := 3) sc_common_divisor.nd (pe_callBG call_absX T.abs bt_abs (pa_c (pvL 1) (pa_nil)))) (pss_cons (ps_while PassesOwn.leaving (pt_cmpR (op_neK (K := K) rfl hu) (pvL 3) (pe_int) (nomark _)) (pss_cons (ps_setL (i := 4) sc_common_divisor.nd (pe_op op_modX (pvL 2) (pvL 3))) (pss_cons (ps_setL (i := 2) sc_common_divisor.nd (pvL 3)) (pss_one (ps_setL (i := 3) sc_common_divisor.nd (pvL 4)))))) (pss_one (ps_ret (pvL 2))))), ?_⟩
    ac_nf
    refine while_x (fun σ H' => H' = H ∧ ∃ (l r : Nat) (o : Option V), σ = [some (.int a), some (.int b), some (.int l), some (.int r), o] ∧ Nat.gcd l r = Int.gcd a b)
      (fun σ _ => match σ with | [_, _, _, some (.int r), _] => r.toNat | _ => 0) ⟨rfl, a.natAbs, b.natAbs, none, rfl, rfl⟩ ?_
    rintro σ H' ⟨rfl, l, r, o, rfl, hg⟩
    ac_nf
    by_cases hr0 : r = 0
    · subst hr0
      rw [Nat.gcd_zero_right] at hg
      subst hg
      exact k
    · have e : (!decide ((r : Int) = 0)) = true := by simp [hr0]
      rw [if_pos e]
      refine ⟨_, fun _ _ h => h, by omega, ⟨rfl, r, l % r, some (.int ((l % r : Nat) : Int)), ?_, ?_⟩, ?_⟩
      · rw [Int.natCast_emod]
      · rw [← hg, Nat.gcd_comm l r, Nat.gcd_rec r l, Nat.gcd_comm]
      · show ((l : Int) % (r : Int)).toNat < ((r : Int)).toNat
        have h1 : (l : Int) % (r : Int) < r := Int.emod_lt_of_pos _ (by omega)
        have h2 : 0 ≤ (l : Int) % (r : Int) := Int.emod_nonneg _ (by omega)
        omega
def isAlphaL (z : List Nat) : Bool := decide (3 ≤ z.length) && decide (z.length ≤ 26) && decide z.Nodup && z.all fun c => decide (97 ≤ c ∧ c < 123)
def isAlphaV : V → Bool
  | .str z => isAlphaL z.cps.toList
  | _ => false
def sp_is_alphabet : Sp := fun vs H Q _ => ∃ (x : V) (t : Tg), vs = [x] ∧ tagV H x = some t ∧ (∀ z, x = .str z → z.length ≤ 4000) ∧ ∀ H', Same H H' → Q (.bl (isAlphaV x)) H'
theorem sc_is_alphabet : FnScope ["thing"] ["thing"] (defScope s_is_alphabet) := ⟨rfl, rfl, rfl, by decide +kernel, rfl, by decide +kernel, by decide +kernel⟩
theorem ok_is_alphabet {f : Addr} {fd : FuncData} (F : Fun K "is_alphabet" "is_alphabet" s_is_alphabet f fd) (T : Bl mg) (AF : AdF K mg Ad)  : FnOk P w K mg base (CX1 P w) 1 f fd ["thing"] sp_is_alphabet := by
  refine F.okX (k := 0) sc_is_alphabet (fun vs H Q E h => ?_) (fun cdv A outer s H vs Q E hr h => ?_)
  · obtain ⟨x, t, rfl, _⟩ := h
    rfl
  · obtain ⟨x, t, rfl, ht, hz, k⟩ := h
    have hu := hr.units0
    have hu1 := hu_of hr
    refine ⟨_, pss_cons (ps_if ((pw_or (pt_not (pt_val (pe_callBG (call_isiC .str) T.isinstance bt_isinstance (pa_c (pvL 0) (pa_c (pe_tyG T.str bt_str) (pa_nil)))))) (pw_or1 (pt_not (pt_chain op_leX op_leX (pe_int) (pe_callBG (call_lenK (K := K) rfl) T.len bt_len (pa_c (pvL 0) (pa_nil))) (pe_int))))).pt) (pss_one (ps_ret (pe_bl))) (pss_nil)) (pss_one (ps_ret (pe_and (pe_cmpR (op_eqK (K := K) rfl hu) (pe_callBG (call_lenTK (P := P) (w := w) rfl rfl) T.len bt_len (pa_c (pe_callTyG (call_setK (P := P) (w := w) rfl rfl rfl) T.set bt_set (pa_c (pvL 0) (pa_nil))) (pa_nil))) (pe_callBG (call_lenK (K := K) rfl) T.len bt_len (pa_c (pvL 0) (pa_nil))) (nomark _)) (pe_one (pe_callBG (call_allK (K := K) rfl rfl) T.all bt_all (pa_c (pe_lc ["sign"] rfl ⟨rfl, by decide +kernel, rfl, by decide +kernel⟩ (.nil) (by decide +kernel) (pi_seqK (K := K) rfl (pvL 0)) (fun _ _ _ _ => pg_nameL (i := 0) (show (["sign"] : List Str).Nodup from by decide +kernel)) (fun _ _ _ _ => pif_nil) (fun _ _ _ _ => pe_cmpR (op_inK (K := K) rfl hu1) (pvL 0) (pe_globE AF.v_SMALL_LETTERS) (by kernel_rfl))) (pa_nil))))))), ?_⟩
    by_cases hs : ∃ z, x = .str z
    · obtain ⟨z, rfl⟩ := hs
      cases ht
      have hl := hz z rfl
      have hc := len_cps z
      have ek : isAlphaV (.str z) = isAlphaL z.cps.toList := rfl
      ac_nf
      refine ⟨trivial, Tg.str, rfl, ?_⟩
      ac_nf
      refine ⟨Nat.le_of_lt (small_line (by omega)), ?_⟩
      by_cases h3 : 3 ≤ z.length ∧ z.length ≤ 26
      · have d1 : decide ((3 : Int) ≤ (z.length : Int)) = true := decide_eq_true (by omega)
        have d2 : decide ((z.length : Int) ≤ 26) = true := decide_eq_true (by omega)
        rw [d1]
        bv_omega
        rw [d2]
        bv_omega
        refine ⟨by omega, fun p H1 hp s1 h1 => ?_⟩
        refine ⟨_, h1, Nat.le_of_lt (small_line (by omega)), ?_⟩
        by_cases hn : z.cps.toList.Nodup
        · have e1 := (met_nodup z).mpr hn
          rw [e1, decide_eq_true rfl]
          bv_omega
          refine lc_M (fun c : Nat => V.str ⟨#[c]⟩) inj_sg (seq_sg z) (small_line (by omega)) (fun c => .bl (decide (97 ≤ c ∧ c < 123))) ?_ ?_
          · intro c hc H2 s2 R hR
            ac_nf
            rw [in_one, abc_codes]
            have e2 : decide (c ∈ List.range' 97 26) = decide (97 ≤ c ∧ c < 123) := decide_eq_decide.mpr (by rw [List.mem_range'_1])
            rw [e2]
            exact hR H2 (Same.refl _)
          · intro D H2 hD s2 h2
            refine ⟨D, z.cps.toList.map fun c => decide (97 ≤ c ∧ c < 123), rfl, .of (by rw [h2, List.map_map]; rfl), ?_⟩
            have e : (z.cps.toList.map fun c => decide (97 ≤ c ∧ c < 123)).all id = isAlphaV (.str z) := by
              rw [ek]
              unfold isAlphaL
              rw [decide_eq_true (show 3 ≤ z.cps.toList.length by omega), decide_eq_true (show z.cps.toList.length ≤ 26 by omega), decide_eq_true hn, List.all_map]; rfl
            rw [e]
            exact k H2 (s1.trans s2)
        · have e1 : decide (((metK (valT z) z.length).length : Int) = (z.length : Int)) = false := decide_eq_false fun e => hn ((met_nodup z).mp (by omega))
          rw [e1]
          bv_omega
          have e : isAlphaV (.str z) = false := by rw [ek]; unfold isAlphaL; rw [decide_eq_false hn]; simp
          rw [e] at k
          exact k H1 s1
      · have e : isAlphaV (.str z) = false := by
          rw [ek]
          unfold isAlphaL
          by_cases h4 : 3 ≤ z.length
          · rw [decide_eq_false (show ¬ z.cps.toList.length ≤ 26 by omega)]; simp
          · rw [decide_eq_false (show ¬ 3 ≤ z.cps.toList.length by omega)]; simp
        rw [e] at k
        by_cases h4 : 3 ≤ z.length
        · have d1 : decide ((3 : Int) ≤ (z.length : Int)) = true := decide_eq_true (by omega)
          have d2 : decide ((z.length : Int) ≤ 26) = false := decide_eq_false (by omega)
          rw [d1]
          bv_omega
          rw [d2]
          bv_omega
          exact k H (Same.refl _)
        · have d1 : decide ((3 : Int) ≤ (z.length : Int)) = false := decide_eq_false (by omega)
          rw [d1]
          bv_omega
          exact k H (Same.refl _)
    · have hv : isAlphaV x = false := by
        cases x with
        | str z => exact absurd ⟨z, rfl⟩ hs
        | _ => rfl
      have hne := sub_str ht fun z e => hs ⟨z, e⟩
      rw [hv] at k
      ac_nf
      refine ⟨trivial, t, ht, ?_⟩
      cases t <;> first
        | exact absurd rfl hne
        | exact k H (Same.refl _)
def sp_Code_many (Ad : Ads) : Sp := fun vs H Q _ => ∃ (a : Addr) (al : List Nat) (ws : List Int) (r : Int), vs = [.ref a] ∧ CodeAt Ad H a al ws r ∧ al.length ≤ 26 ∧ 1 ≤ ws.length ∧ ws.length ≤ 8 ∧ ∀ H', Same H H' → Q (.int ((al.length : Int) ^ (ws.length - 1))) H'
theorem sc_Code_many : FnScope ["self", "product", "weight"] ["self"] (defScope s_Code_many) := ⟨rfl, rfl, rfl, by decide +kernel, rfl, by decide +kernel, by decide +kernel⟩
theorem ok_Code_many {f : Addr} {fd : FuncData} (F : Fun K "many" "Code.many" s_Code_many f fd) (T : Bl mg) (AF : AdF K mg Ad)  : FnOk P w K mg base (CX1 P w) 1 f fd ["self"] (sp_Code_many Ad) := by
  refine F.okX (k := 0) sc_Code_many (fun vs H Q E h => ?_) (fun cdv A outer s H vs Q E hr h => ?_)
  · obtain ⟨a, al, ws, r, rfl, _⟩ := h
    rfl
  · obtain ⟨a, al, ws, r, rfl, ⟨dx, q, h1, h2⟩, h26, hw1, hw8, k⟩ := h
    have hu := hr.units0
    have hu1 := hu_of hr
    refine ⟨_, pss_cons (ps_setL (i := 1) sc_Code_many.nd (pe_int)) (pss_cons (ps_for PassesOwn.leaving rfl (pi_seqK (K := K) rfl (pe_slice (sl_YK (K := K) rfl) (pe_fldX (K := K) rfl (pvL 0)) (po_some (pe_int)) (po_none))) (pg_nameL (i := 2) sc_Code_many.nd) (pss_one (ps_setL (i := 1) sc_Code_many.nd (pe_op op_mulX (pvL 1) (pe_callBG (call_lenK (K := K) rfl) T.len bt_len (pa_c (pe_fldX (K := K) rfl (pvL 0)) (pa_nil))))))) (pss_one (ps_ret (pvL 1)))), ?_⟩
    and_intros
    rw [ap_seq]
    and_intros
    rw [ap_seq]
    and_intros
    refine ⟨_, dx, _, _, h1, AF.c_Code, AF.n_Code_factors, codeF_factors al q r, ?_⟩
    and_intros
    refine ⟨_, .of h2, fun p H1 hp s1 h3 => .inl ⟨⟨_, .of h3⟩, ?_⟩⟩
    rw [show (1 : Int) = ((1 : Nat) : Int) from rfl, cutV_drop, ← List.map_drop] at h3
    refine for_lst (xs := (ws.drop 1).map V.int) (fun i σ H' => H' = H1 ∧ ∃ o, σ = [some (.ref a), some (.int ((al.length : Int) ^ i)), o]) ?_ ?_ ?_ ?_
    · exact ⟨rfl, none, by simp⟩
    · rintro i σ H' _ ⟨rfl, _⟩
      exact .of h3
    · rintro i x σ H' hx ⟨rfl, o, rfl⟩
      have hi : i < ws.length - 1 := by
        have := (List.getElem?_eq_some_iff.mp hx).1
        rw [List.length_map, List.length_drop] at this
        exact this
      ac_nf
      refine ⟨_, dx, _, _, s1 _ _ h1, AF.c_Code, AF.n_Code_letters, codeF_letters al q r, ?_⟩
      ac_nf
      rw [tx_len]
      refine ⟨Nat.le_of_lt (small_line (by omega)), ⟨?_, Nat.lt_of_lt_of_le (show ((al.length : Int)).natAbs < 1000 by omega) (by decide)⟩, trivial, some x, ?_⟩
      · have e : (((al.length : Int)) ^ i).natAbs = al.length ^ i := by rw [Int.natAbs_pow]; rfl
        rw [e]
        refine Nat.lt_of_le_of_lt (Nat.pow_le_pow_left h26 i) (Nat.lt_of_le_of_lt (Nat.pow_le_pow_right (by decide) (show i ≤ 8 by omega)) (by decide))
      · rw [← Int.pow_succ]
    · rintro σ H' ⟨rfl, o, rfl⟩
      rw [List.length_map, List.length_drop]
      ac_nf
      exact k _ s1
def sp_are_letters : Sp := fun vs H Q _ => ∃ (x : V) (t : Tg) (n : Nat), vs = [x, .int n] ∧ tagV H x = some t ∧ (∀ z, x = .str z → z.length ≤ 100000) ∧ n ≤ 1000 ∧ ∀ H', Same H H' → Q (.bl (areLetV n x)) H'
theorem sc_are_letters : FnScope ["thing", "most"] ["thing", "most"] (defScope s_are_letters) := ⟨rfl, rfl, rfl, by decide +kernel, rfl, by decide +kernel, by decide +kernel⟩
theorem ok_are_letters {f : Addr} {fd : FuncData} (F : Fun K "are_letters" "are_letters" s_are_letters f fd) (T : Bl mg) (AF : AdF K mg Ad)  : FnOk P w K mg base (CX1 P w) 1 f fd ["thing", "most"] sp_are_letters := by
  refine F.okX (k := 0) sc_are_letters (fun vs H Q E h => ?_) (fun cdv A outer s H vs Q E hr h => ?_)
  · obtain ⟨x, t, n, rfl, _⟩ := h
    rfl
  · obtain ⟨x, t, n, rfl, ht, hz, hn, k⟩ := h
    have hu := hr.units0
    have hu1 := hu_of hr
    refine ⟨_, pss_cons (ps_if ((pw_or (pt_not (pt_val (pe_callBG (call_isiC .str) T.isinstance bt_isinstance (pa_c (pvL 0) (pa_c (pe_tyG T.str bt_str) (pa_nil)))))) (pw_or1 (pt_not (pt_chain op_leX op_leX (pe_int) (pe_callBG (call_lenK (K := K) rfl) T.len bt_len (pa_c (pvL 0) (pa_nil))) (pvL 1))))).pt) (pss_one (ps_ret (pe_bl))) (pss_nil)) (pss_one (ps_ret (pe_callBG (call_allK (K := K) rfl rfl) T.all bt_all (pa_c (pe_lc ["sign"] rfl ⟨rfl, by decide +kernel, rfl, by decide +kernel⟩ (.nil) (by decide +kernel) (pi_seqK (K := K) rfl (pvL 0)) (fun _ _ _ _ => pg_nameL (i := 0) (show (["sign"] : List Str).Nodup from by decide +kernel)) (fun _ _ _ _ => pif_nil) (fun _ _ _ _ => pe_cmpR (op_inK (K := K) rfl hu1) (pvL 0) (pe_globE AF.v_SMALL_LETTERS) (by kernel_rfl))) (pa_nil))))), ?_⟩
    by_cases hs : ∃ z, x = .str z
    · obtain ⟨z, rfl⟩ := hs
      cases ht
      have hl := hz z rfl
      have hc := len_cps z
      have ek : areLetV n (.str z) = areLet n z.cps.toList := rfl
      ac_nf
      refine ⟨trivial, Tg.str, rfl, ?_⟩
      ac_nf
      refine ⟨Nat.le_of_lt (small_line (by omega)), ?_⟩
      by_cases h1 : 1 ≤ z.length
      · rw [decide_eq_true (show (1 : Int) ≤ (z.length : Int) by omega)]
        bv_omega
        by_cases h2 : z.length ≤ n
        · rw [decide_eq_true (show (z.length : Int) ≤ (n : Int) by omega)]
          bv_omega
          refine lc_M (fun c : Nat => V.str ⟨#[c]⟩) inj_sg (seq_sg z) (small_line (by omega)) (fun c => .bl (decide (97 ≤ c ∧ c < 123))) ?_ ?_
          · intro c hc H2 s2 R hR
            ac_nf
            rw [in_one, abc_codes]
            have e2 : decide (c ∈ List.range' 97 26) = decide (97 ≤ c ∧ c < 123) := decide_eq_decide.mpr (by rw [List.mem_range'_1])
            rw [e2]
            exact hR H2 (Same.refl _)
          · intro D H2 hD s2 h2'
            refine ⟨D, z.cps.toList.map fun c => decide (97 ≤ c ∧ c < 123), rfl, .of (by rw [h2', List.map_map]; rfl), ?_⟩
            have e : (z.cps.toList.map fun c => decide (97 ≤ c ∧ c < 123)).all id = areLetV n (.str z) := by
              rw [ek]
              unfold areLet
              rw [decide_eq_true (show 1 ≤ z.cps.toList.length by omega), decide_eq_true (show z.cps.toList.length ≤ n by omega), List.all_map]; rfl
            rw [e]
            exact k H2 s2
        · have e : areLetV n (.str z) = false := by rw [ek]; unfold areLet; rw [decide_eq_false (show ¬ z.cps.toList.length ≤ n by omega)]; simp
          rw [e] at k
          rw [decide_eq_false (show ¬ (z.length : Int) ≤ (n : Int) by omega)]
          bv_omega
          exact k H (Same.refl _)
      · have e : areLetV n (.str z) = false := by rw [ek]; unfold areLet; rw [decide_eq_false (show ¬ 1 ≤ z.cps.toList.length by omega)]; simp
        rw [e] at k
        rw [decide_eq_false (show ¬ (1 : Int) ≤ (z.length : Int) by omega)]
        bv_omega
        exact k H (Same.refl _)
    · have hv : areLetV n x = false := by
        cases x with
        | str z => exact absurd ⟨z, rfl⟩ hs
        | _ => rfl
      have hne := sub_str ht fun z e => hs ⟨z, e⟩
      rw [hv] at k
      ac_nf
      refine ⟨trivial, t, ht, ?_⟩
      cases t <;> first
        | exact absurd rfl hne
        | exact k H (Same.refl _)
def sp_Book_init (Ad : Ads) : Sp := fun vs H Q _ => ∃ (b dx ca : Addr), vs = [.ref b, .ref ca] ∧ H b = some (.ins Ad.Book dx []) ∧ ∀ dn de H', H dn = none → H de = none → dn ≠ de → dn ≠ b → de ≠ b → (∀ c u, c ≠ b → H c = some u → H' c = some u) → H' b = some (.ins Ad.Book dx (bookF ca dn de)) → H' dn = some (.dK []) → H' de = some (.dT []) → Q .non H'
theorem sc_Book_init : FnScope ["self", "code"] ["self", "code"] (defScope s_Book_init) := ⟨rfl, rfl, rfl, by decide +kernel, rfl, by decide +kernel, by decide +kernel⟩
theorem ok_Book_init {f : Addr} {fd : FuncData} (F : Fun K "__init__" "Book.__init__" s_Book_init f fd) (T : Bl mg) (AF : AdF K mg Ad)  : FnOk P w K mg base (CX1 P w) 1 f fd ["self", "code"] (sp_Book_init Ad) := by
  refine F.okX (k := 0) sc_Book_init (fun vs H Q E h => ?_) (fun cdv A outer s H vs Q E hr h => ?_)
  · obtain ⟨b, dx, ca, rfl, _⟩ := h
    rfl
  · obtain ⟨b, dx, ca, rfl, hb, k⟩ := h
    have hu := hr.units0
    have hu1 := hu_of hr
    refine ⟨_, pss_cons (ps_fldX (K := K) rfl (pvL 0) (pvL 1)) (pss_cons (ps_fldX (K := K) rfl (pvL 0) (pe_dnewX)) (pss_one (ps_fldX (K := K) rfl (pvL 0) (pe_dnewTX)))), ?_⟩
    ac_nf
    refine ⟨_, _, _, hb, AF.c_Book, AF.n_Book_basis, by decide, fun p G1 z1 t1 g1 => ?_⟩
    have np1 : p ≠ b := fun e => by rw [e, upd_same] at z1; cases z1
    have hb1 := t1 b _ upd_same
    refine ⟨_, _, _, hb1, AF.c_Book, AF.n_Book_by_number, Nat.lt_of_le_of_lt (Nat.le_refl 1) (by decide), fun p2 G2 z2 t2 g2 => ?_⟩
    have np2 : p2 ≠ b := fun e => by rw [e, upd_same] at z2; cases z2
    have hb2 := t2 b _ upd_same
    have k1 : ∀ c u, c ≠ b → H c = some u → G1 c = some u := fun c u hc h => t1 c u (by rw [upd_ne hc]; exact h)
    have k2 : ∀ c u, c ≠ b → G1 c = some u → G2 c = some u := fun c u hc h => t2 c u (by rw [upd_ne hc]; exact h)
    have ne : p ≠ p2 := fun e => by rw [← e, upd_ne np1, g1] at z2; cases z2
    refine ⟨_, _, _, hb2, AF.c_Book, AF.n_Book_by_entry, Nat.lt_of_le_of_lt (Nat.le_refl 2) (by decide), k p p2 _ ?_ ?_ ne np1 np2 (fun c u hc h => by rw [upd_ne hc]; exact k2 c u hc (k1 c u hc h)) (by rw [upd_same]; rfl) (by rw [upd_ne np1]; exact k2 _ _ np1 g1) (by rw [upd_ne np2]; exact g2)⟩
    · cases e : H p with
      | none => rfl
      | some o => rw [upd_ne np1, e] at z1; cases z1
    · cases e : H p2 with
      | none => rfl
      | some o => rw [upd_ne np2, k1 p2 o np2 e] at z2; cases z2
theorem key_strs {ks : List Key} (ok : EnOk ks) : ∃ us : List Str, ks = us.map Sum.inr ∧ ks.map kV = us.map V.str := by
  have h := ok.is
  cases ks with
  | nil => cases h
  | cons a r =>
    cases a with
    | inl i => cases h
    | inr z =>
      cases r with
      | nil => exact ⟨[z], rfl, rfl⟩
      | cons y r2 =>
        cases r2 with
        | cons _ _ => cases h
        | nil =>
          cases y with
          | inr y => exact ⟨[z, y], rfl, rfl⟩
          | inl i =>
            exfalso
            have h' : (if z = ("phrase" : Str) then false else if z = ("part" : Str) then false else false) = true := h
            split at h'
            · cases h'
            · split at h' <;> cases h'
theorem strs_key {us vs : List Str} : us.map (Sum.inr : Str → Key) = vs.map Sum.inr ↔ us = vs :=
  ⟨fun h => (List.map_inj_right fun x y e => Sum.inr.inj e).mp h, fun h => by rw [h]⟩
theorem rc_ents {K : PySem.W.Frag} {H : Hp} {p q : Addr} {ks ks' : List Key} (h1 : H p = some (.tup (ks.map kV))) (h2 : H q = some (.tup (ks'.map kV))) (o1 : EnOk ks) (o2 : EnOk ks') : RcR K H 0 (.ref p) (.ref q) (decide (ks = ks')) ∧ EqR K H 1 (.ref p) (.ref q) (decide (ks = ks')) := by
  obtain ⟨us, e1, f1⟩ := key_strs o1
  obtain ⟨vs, e2, f2⟩ := key_strs o2
  have hd : decide (ks = ks') = decide (us = vs) := by rw [e1, e2, decide_eq_decide]; exact strs_key
  rw [hd]
  rw [f1] at h1
  rw [f2] at h2
  refine ⟨rc_strs (.of h1) (.of h2), eq_strs (.of h1) (.of h2) fun e => ?_⟩
  subst e
  rw [h1] at h2
  have : us.map V.str = vs.map V.str := by injection h2 with h2; injection h2
  exact (List.map_inj_right fun x y e => V.str.inj e).mp this
def edF (b cl sd : Addr) (day : Int) : List (Str × V) := [("current", .ref b), ("changes", .ref cl), ("struck", .ref sd), ("latest", .int day)]
abbrev Lk := Int → Option (Int × List Key)
def StAt (H : Hp) (kvs : List (Key × V)) (lk : Lk) : Prop := ∀ n : Int, (valV kvs (.inl n) = none ∧ lk n = none) ∨ ∃ (tp ad : Addr) (d : Int) (key : List Key), valV kvs (.inl n) = some (.ref tp) ∧ H tp = some (.tup [.int d, .ref ad]) ∧ H ad = some (.tup (key.map kV)) ∧ EnOk key ∧ lk n = some (d, key)
theorem StAt.same {H H' : Hp} {kvs : List (Key × V)} {lk : Lk} (h : StAt H kvs lk) (s : Same H H') : StAt H' kvs lk := fun n => (h n).imp id fun ⟨tp, ad, d, key, h1, h2, h3, h4⟩ => ⟨tp, ad, d, key, h1, s _ _ h2, s _ _ h3, h4⟩
def barE (lk : Lk) (day : Int) (key : List Key) (n : Int) : Bool := match lk n with
  | none => false
  | some (d, k) => !decide (k = key) && decide (day - d < 31)
theorem bar_some {lk : Lk} {day d n : Int} {key k : List Key} (h : lk n = some (d, k)) : barE lk day key n = (!decide (k = key) && decide (day - d < 31)) := by
  unfold barE
  rw [h]
theorem bar_none {lk : Lk} {day n : Int} {key : List Key} (h : lk n = none) : barE lk day key n = false := by
  unfold barE
  rw [h]
structure EdAt (Ad : Ads) (H : Hp) (ed b ca dn de cl sd : Addr) (es : List Ben) (lk : Lk) (day : Int) (m : Nat) : Prop where
  eF : ∃ dx, H ed = some (.ins Ad.Editions dx (edF b cl sd day))
  bF : BookAt Ad H b ca dn de es
  cF : ∃ cs, H cl = some (.lst cs) ∧ cs.length ≤ m
  sF : ∃ kvs, H sd = some (.dK kvs) ∧ StAt H kvs lk ∧ kvs.length ≤ m
  ne : dn ≠ sd
theorem EdAt.same {Ad : Ads} {H H' : Hp} {ed b ca dn de cl sd : Addr} {es : List Ben} {lk : Lk} {day : Int} {m : Nat} (h : EdAt Ad H ed b ca dn de cl sd es lk day m) (s : Same H H') : EdAt Ad H' ed b ca dn de cl sd es lk day m := by
  obtain ⟨⟨dx, h1⟩, h2, ⟨cs, h3, h4⟩, ⟨kvs, h5, h6, h7⟩, h8⟩ := h
  exact ⟨⟨dx, s _ _ h1⟩, h2.same s, ⟨cs, s _ _ h3, h4⟩, ⟨kvs, s _ _ h5, h6.same s, h7⟩, h8⟩
theorem StAt.past {H H' : Hp} {kvs : List (Key × V)} {lk : Lk} (h : StAt H kvs lk) (s : ∀ c xs, H c = some (.tup xs) → H' c = some (.tup xs)) : StAt H' kvs lk := fun n => (h n).imp id fun ⟨tp, ad, d, key, h1, h2, h3, h4⟩ => ⟨tp, ad, d, key, h1, s _ _ h2, s _ _ h3, h4⟩
theorem ed_ne {Ad : Ads} {H : Hp} {b ca dn de ed dx bx b' cl sd : Addr} {l0 : Int} (h : H b = some (.ins Ad.Book bx (bookF ca dn de))) (h' : H ed = some (.ins Ad.Editions dx (edF b' cl sd l0))) : b ≠ ed := fun e => by
  rw [e, h'] at h
  injection h with h
  injection h with _ _ h
  have := congrArg (fun l : List (Str × V) => (l.head?.map (·.1))) h
  have : some ("current" : Str) = some ("basis" : Str) := this
  exact absurd this (by decide)
theorem BookAt.past {Ad : Ads} {H H' : Hp} {b ca dn de ed dx b' cl sd : Addr} {es : List Ben} {l0 : Int} {cs : List V} (B : BookAt Ad H b ca dn de es) (hed : H ed = some (.ins Ad.Editions dx (edF b' cl sd l0))) (hcl : H cl = some (.lst cs)) (k : ∀ c o, c ≠ ed → c ≠ cl → H c = some o → H' c = some o) : BookAt Ad H' b ca dn de es := by
  obtain ⟨⟨bx, h1⟩, h2, h3, h4, h5, h6⟩ := B
  exact ⟨⟨bx, k _ _ (ed_ne h1 hed) (ne_of h1 hcl (by intro z; cases z)) h1⟩, k _ _ (ne_of h2 hed (by intro z; cases z)) (ne_of h2 hcl (by intro z; cases z)) h2, k _ _ (ne_of h3 hed (by intro z; cases z)) (ne_of h3 hcl (by intro z; cases z)) h3, fun e he => k _ _ (ne_of (h4 e he) hed (by intro z; cases z)) (ne_of (h4 e he) hcl (by intro z; cases z)) (h4 e he), h5, h6⟩
def sp_Editions_is_barred (K : PySem.W.Frag) (Ad : Ads) : Sp := fun vs H Q _ => ∃ (ed dx b cl sd t : Addr) (l0 day n : Int) (kvs : List (Key × V)) (lk : Lk) (key : List Key), vs = [.ref ed, .int day, .ref t, .int n] ∧ H ed = some (.ins Ad.Editions dx (edF b cl sd l0)) ∧ H sd = some (.dK kvs) ∧ StAt H kvs lk ∧ H t = some (.tup (key.map kV)) ∧ EnOk key ∧ ∀ H', Same H H' → Q (.bl (barE lk day key n)) H'
theorem sc_Editions_is_barred : FnScope ["self", "day", "entry", "number", "lately"] ["self", "day", "entry", "number"] (defScope s_Editions_is_barred) := ⟨rfl, rfl, rfl, by decide +kernel, rfl, by decide +kernel, by decide +kernel⟩
theorem ok_Editions_is_barred {f : Addr} {fd : FuncData} (F : Fun K "is_barred" "Editions.is_barred" s_Editions_is_barred f fd) (T : Bl mg) (AF : AdF K mg Ad)  : FnOk P w K mg base (CX1 P w) 1 f fd ["self", "day", "entry", "number"] (sp_Editions_is_barred K Ad) := by
  refine F.okX (k := 0) sc_Editions_is_barred (fun vs H Q E h => ?_) (fun cdv A outer s H vs Q E hr h => ?_)
  · obtain ⟨ed, dx, b, cl, sd, t, l0, day, n, kvs, lk, key, rfl, _⟩ := h
    rfl
  · obtain ⟨ed, dx, b, cl, sd, t, l0, day, n, kvs, lk, key, rfl, h1, h2, S, ht, eo, k⟩ := h
    have hu := hr.units0
    have hu1 := hu_of hr
    have hu9 := hr.hu9
    refine ⟨_, pss_cons (ps_setL (i := 4) sc_Editions_is_barred.nd (pe_dget1G hu1 (pe_fldX (K := K) rfl (pvL 0)) (pvL 3))) (pss_one (ps_ret (pe_and (pe_cmpR op_isnotX (pvL 4) (pe_non) (nomark _)) (pe_and (pe_cmpR (op_neQ (K := K) rfl hu9) (pe_ix (ix_K (K := K) rfl) (pvL 4) (pe_int) (fun _ _ => rfl)) (pvL 2) (nomark _)) (pe_one (pe_cmpR op_ltX (pe_op op_subX (pvL 1) (pe_ix (ix_K (K := K) rfl) (pvL 4) (pe_int) (fun _ _ => rfl))) (pe_globE AF.v_DAYS_BARRED) (nomark _))))))), ?_⟩
    refine seq_go fun nn hN => ?_
    and_intros
    refine ⟨_, dx, _, _, h1, AF.c_Editions, AF.n_Editions_struck, rfl, sd, rfl, .inl ⟨_, .inl h2⟩, _, .inl ⟨_, .inl n, .inl h2, rfl, rfl⟩, ?_⟩
    rw [hN]
    clear hN nn
    rcases S n with ⟨e1, e2⟩ | ⟨tp, ad, d, key', e1, e2, e3, e4, e5⟩
    · rw [e1]
      and_intros
      have := k H (Same.refl _)
      unfold barE at this
      rw [e2] at this
      exact this
    · rw [e1, show (some (V.ref tp)).getD V.non = V.ref tp from rfl]
      and_intros
      refine ⟨_, _, .inr (.of e2), atI_of (by decide) rfl, 0, _, by decide, (rc_ents e3 ht e4 eo).1, ?_⟩
      have kk := k H (Same.refl _)
      unfold barE at kk
      rw [e5] at kk
      have kk : Q (.bl (!decide (key' = key) && decide (day - d < 31))) H := kk
      by_cases hk : key' = key
      · rw [decide_eq_true hk] at kk ⊢
        rw [if_neg (by decide)]
        exact kk
      · rw [decide_eq_false hk] at kk ⊢
        rw [if_pos (by decide)]
        and_intros
        refine ⟨_, _, .inr (.of e2), atI_of (by decide) rfl, ?_⟩
        and_intros
        exact kk
def sp_Editions_note_change (Ad : Ads) : Sp := fun vs H Q _ => ∃ (ed dx b cl sd : Addr) (l0 d : Int) (y z : V) (cs : List V), vs = [.ref ed, .int d, y, z] ∧ H ed = some (.ins Ad.Editions dx (edF b cl sd l0)) ∧ H cl = some (.lst cs) ∧ cs.length < 1000 ∧
  ∀ p H', H p = none → (∀ c o, c ≠ ed → c ≠ cl → H c = some o → H' c = some o) → H' ed = some (.ins Ad.Editions dx (edF b cl sd d)) → H' p = some (.tup [.int d, y, z]) → H' cl = some (.lst (cs ++ [.ref p])) → Q .non H'
theorem sc_Editions_note_change : FnScope ["self", "day", "number", "entry"] ["self", "day", "number", "entry"] (defScope s_Editions_note_change) := ⟨rfl, rfl, rfl, by decide +kernel, rfl, by decide +kernel, by decide +kernel⟩
theorem ok_Editions_note_change {f : Addr} {fd : FuncData} (F : Fun K "note_change" "Editions.note_change" s_Editions_note_change f fd) (T : Bl mg) (AF : AdF K mg Ad)  : FnOk P w K mg base (CX1 P w) 1 f fd ["self", "day", "number", "entry"] (sp_Editions_note_change Ad) := by
  refine F.okX (k := 0) sc_Editions_note_change (fun vs H Q E h => ?_) (fun cdv A outer s H vs Q E hr h => ?_)
  · obtain ⟨ed, dx, b, cl, sd, l0, d, y, z, cs, rfl, _⟩ := h
    rfl
  · obtain ⟨ed, dx, b, cl, sd, l0, d, y, z, cs, rfl, h1, h2, hl, k⟩ := h
    have hu := hr.units0
    have hu1 := hu_of hr
    refine ⟨_, pss_cons (ps_expr (pe_bmG (K := K) rfl PySem.F.plainAttrs_list PySem.F.slot_list_append PySem.F.type_list_append mt_append (pe_fldX (K := K) rfl (pvL 0)) (pa_c (pe_tupX (pa_c (pvL 1) (pa_c (pvL 2) (pa_c (pvL 3) (pa_nil))))) (pa_nil)))) (pss_one (ps_fldX (K := K) rfl (pvL 0) (pvL 1))), ?_⟩
    refine seq_go fun nn hN => ?_
    and_intros
    refine ⟨_, dx, _, _, h1, AF.c_Editions, AF.n_Editions_changes, rfl, ?_, Nat.le_of_lt (small_line (by decide)), fun p G1 hp t1 g1 => ?_⟩
    · exact .inl ⟨rfl, _, .of h2⟩
    refine ⟨cl, cs, _, rfl, rfl, t1 _ _ h2, small_line (by omega), ?_⟩
    have nec : ed ≠ cl := ne_of h1 h2 (by intro z; cases z)
    have npc : p ≠ cl := fun e => by rw [e, h2] at hp; cases hp
    have npe : p ≠ ed := fun e => by rw [e, h1] at hp; cases hp
    have k2 : ∀ c o, c ≠ cl → G1 c = some o → upd G1 cl (.lst (cs ++ [V.ref p])) c = some o := fun c o hc e => by rw [upd_ne hc]; exact e
    have g2 : upd G1 cl (.lst (cs ++ [V.ref p])) cl = some (.lst (cs ++ [V.ref p])) := upd_same
    generalize upd G1 cl (.lst (cs ++ [V.ref p])) = G2 at k2 g2
    rw [hN]
    clear hN nn
    and_intros
    refine ⟨_, dx, _, k2 _ _ nec (t1 _ _ h1), AF.c_Editions, AF.n_Editions_latest, by show 4 < 1000; decide, ?_⟩
    exact k p _ hp (fun c o e1 e2 e => by rw [upd_ne e1]; exact k2 c o e2 (t1 _ _ e)) upd_same (by rw [upd_ne npe]; exact k2 _ _ npc g1) (by rw [upd_ne nec.symm]; exact g2)
def sp_law_cell_at (K : PySem.W.Frag) : Sp := fun vs H Q _ => ∃ (a : Addr) (ns : List Int) (k : Int), vs = [.ref a, .int k] ∧ SqL K H a (ns.map V.int) ∧ 0 ≤ k ∧ Q (.int (ns.getD k.toNat 0)) H
theorem sc_law_cell_at : FnScope ["_law_script", "_law_k"] ["_law_script", "_law_k"] (defScope s_law_cell_at) := ⟨rfl, rfl, rfl, by decide +kernel, rfl, by decide +kernel, by decide +kernel⟩
theorem ok_law_cell_at {f : Addr} {fd : FuncData} (F : Fun K "_law_cell_at" "_law_cell_at" s_law_cell_at f fd) (T : Bl mg) (AF : AdF K mg Ad)  : FnOk P w K mg base (CX1 P w) 1 f fd ["_law_script", "_law_k"] (sp_law_cell_at K) := by
  refine F.okX (k := 0) sc_law_cell_at (fun vs H Q E h => ?_) (fun cdv A outer s H vs Q E hr h => ?_)
  · obtain ⟨a, ns, k, rfl, _⟩ := h
    rfl
  · obtain ⟨a, ns, i, rfl, hS, hi, k⟩ := h
    have hu := hr.units0
    have hu1 := hu_of hr
    refine ⟨_, pss_cons (ps_if (pt_cmpR op_ltX (pvL 1) (pe_callBG (call_lenK (K := K) rfl) T.len bt_len (pa_c (pvL 0) (pa_nil))) (nomark _)) (pss_one (ps_ret (pe_ix (ix_K (K := K) rfl) (pvL 0) (pvL 1) (fun _ _ => rfl)))) (pss_nil)) (pss_one (ps_ret (pe_int))), ?_⟩
    ac_nf
    refine ⟨_, .inl hS, ?_⟩
    rw [List.length_map]
    by_cases hlt : i < (ns.length : Int)
    · rw [if_pos (decide_eq_true hlt)]
      refine ⟨_, .int (ns.getD i.toNat 0), .inl hS, ?_, k⟩
      have e : (ns.map V.int)[i.toNat]? = some (.int (ns.getD i.toNat 0)) := by
        rw [List.getElem?_map, List.getD_eq_getElem?_getD, List.getElem?_eq_getElem (by omega)]; rfl
      have := atI_nat e
      rwa [Int.toNat_of_nonneg hi] at this
    · rw [if_neg (by rw [decide_eq_true_eq]; exact hlt)]
      have e : ns.getD i.toNat 0 = 0 := by rw [List.getD_eq_getElem?_getD, List.getElem?_eq_none (by omega)]; rfl
      rw [e] at k
      exact k
def sp_law_mixed : Sp := fun vs H Q _ => ∃ c : Int, vs = [.int c] ∧ Q (.int (mixP c)) H
theorem sc_law_mixed : FnScope ["_law_cell", "_law_many_here"] ["_law_cell"] (defScope s_law_mixed) := ⟨rfl, rfl, rfl, by decide +kernel, rfl, by decide +kernel, by decide +kernel⟩
theorem ok_law_mixed {f : Addr} {fd : FuncData} (F : Fun K "_law_mixed" "_law_mixed" s_law_mixed f fd) (T : Bl mg) (AF : AdF K mg Ad)  : FnOk P w K mg base (CX1 P w) 1 f fd ["_law_cell"] sp_law_mixed := by
  refine F.okX (k := 0) sc_law_mixed (fun vs H Q E h => ?_) (fun cdv A outer s H vs Q E hr h => ?_)
  · obtain ⟨c, rfl, _⟩ := h
    rfl
  · obtain ⟨c, rfl, k⟩ := h
    have hu := hr.units0
    have hu1 := hu_of hr
    refine ⟨_, pss_cons (ps_setL (i := 1) sc_law_mixed.nd (pe_int)) (pss_one (ps_ret (pe_op op_modX (pe_op op_addX (pe_op op_mulX (pe_op op_modX (pvL 0) (pe_op op_powX (pe_int) (pe_int))) (pvL 1)) (pe_int)) (pe_op op_addX (pe_op op_powX (pe_int) (pe_int)) (pe_int))))), ?_⟩
    ac_nf
    have h1 : 0 ≤ c % 10 ^ 60 := Int.emod_nonneg _ (by decide)
    have h2 : c % 10 ^ 60 < 10 ^ 60 := Int.emod_lt_of_pos _ (by decide)
    refine ⟨⟨by decide, by decide, by decide⟩, by decide, ⟨?_, by decide⟩, ⟨by decide, by decide, by decide⟩, by decide, k⟩
    have e : (c % 10 ^ Int.toNat 60) = c % 10 ^ 60 := rfl
    rw [e]
    have h3 : (10 : Int) ^ 60 ≤ ((2 ^ 1000 : Nat) : Int) := by decide
    omega
def sp_law_apart : Sp := fun vs H Q _ => ∃ n m : Int, vs = [.int n, .int m] ∧ 0 ≤ m ∧ Q (.bl (Mk.cop m n)) H
theorem sc_law_apart : FnScope ["_law_number", "_law_m"] ["_law_number", "_law_m"] (defScope s_law_apart) := ⟨rfl, rfl, rfl, by decide +kernel, rfl, by decide +kernel, by decide +kernel⟩
theorem ok_law_apart {f : Addr} {fd : FuncData} (F : Fun K "_law_apart" "_law_apart" s_law_apart f fd) (T : Bl mg) (AF : AdF K mg Ad)  : FnOk P w K mg base (CX1 P w) 1 f fd ["_law_number", "_law_m"] sp_law_apart := by
  refine F.okX (k := 0) sc_law_apart (fun vs H Q E h => ?_) (fun cdv A outer s H vs Q E hr h => ?_)
  · obtain ⟨n, m, rfl, _⟩ := h
    rfl
  · obtain ⟨n, m, rfl, hm, k⟩ := h
    have hu := hr.units0
    have hu1 := hu_of hr
    refine ⟨_, pss_cons (ps_while PassesOwn.leaving (pt_cmpR (op_neK (K := K) rfl hu) (pvL 1) (pe_int) (nomark _)) (pss_one (ps_par (i := 0) (j := 1) rfl sc_law_apart.nd rfl rfl (by decide) rfl rfl (pa_c (pvL 1) (pa_c (pe_op op_modX (pvL 0) (pvL 1)) (pa_nil))) rfl))) (pss_one (ps_ret (pe_cmpR (op_eqK (K := K) rfl hu) (pe_callBG call_absX T.abs bt_abs (pa_c (pvL 0) (pa_nil))) (pe_int) (nomark _)))), ?_⟩
    ac_nf
    refine while_x (fun σ H' => H' = H ∧ ∃ (a b : Int), σ = [some (.int a), some (.int b)] ∧ 0 ≤ b ∧ Int.gcd a b = Int.gcd n m)
      (fun σ _ => match σ with | [_, some (.int b)] => b.toNat | _ => 0) ⟨rfl, n, m, rfl, hm, rfl⟩ ?_
    rintro σ H' ⟨rfl, a, b, rfl, hb, hg⟩
    ac_nf
    by_cases hb0 : b = 0
    · subst hb0
      have e : decide ((a.natAbs : Int) = 1) = Mk.cop m n := by
        unfold Mk.cop
        rw [← hg, Int.gcd_zero]
        by_cases h : a.natAbs = 1
        · rw [decide_eq_true h]; exact decide_eq_true (by omega)
        · rw [decide_eq_false h]; exact decide_eq_false (by omega)
      rw [← e] at k
      exact k
    · have e : (!decide (b = 0)) = true := by simp [hb0]
      rw [if_pos e]
      refine ⟨_, fun _ _ h => h, by omega, ⟨rfl, b, a % b, rfl, Int.emod_nonneg _ hb0, ?_⟩, ?_⟩
      · rw [Mk.gcd_step, hg]
      · show (a % b).toNat < b.toNat
        have h1 : a % b < b := Int.emod_lt_of_pos _ (by omega)
        have h2 : 0 ≤ a % b := Int.emod_nonneg _ hb0
        omega
def sp_law_many : Sp := fun vs H Q _ => ∃ (p q : Addr) (al : List Nat) (ws : List Int) (r : Int), vs = [.ref p] ∧ Parts H p q al ws r ∧ 1 ≤ ws.length ∧ ws.length ≤ 8 ∧ al.length ≤ 26 ∧ ∀ H', Same H H' → Q (.int (ManyI al ws)) H'
theorem sc_law_many : FnScope ["_law_parts", "_law_many_here", "_law_weight"] ["_law_parts"] (defScope s_law_many) := ⟨rfl, rfl, rfl, by decide +kernel, rfl, by decide +kernel, by decide +kernel⟩
theorem ok_law_many {f : Addr} {fd : FuncData} (F : Fun K "_law_many" "_law_many" s_law_many f fd) (T : Bl mg) (AF : AdF K mg Ad)  : FnOk P w K mg base (CX1 P w) 1 f fd ["_law_parts"] sp_law_many := by
  refine F.okX (k := 0) sc_law_many (fun vs H Q E h => ?_) (fun cdv A outer s H vs Q E hr h => ?_)
  · obtain ⟨p, q, al, ws, r, rfl, _⟩ := h
    rfl
  · obtain ⟨p, q, al, ws, r, rfl, ⟨h1, h2⟩, w1, w8, a26, k⟩ := h
    have hu := hr.units0
    have hu1 := hu_of hr
    refine ⟨_, pss_cons (ps_setL (i := 1) sc_law_many.nd (pe_int)) (pss_cons (ps_for PassesOwn.leaving rfl (pi_seqK (K := K) rfl (pe_slice (sl_YK (K := K) rfl) (pe_ix (ix_K (K := K) rfl) (pvL 0) (pe_int) (fun _ _ => rfl)) (po_some (pe_int)) (po_none))) (pg_nameL (i := 2) sc_law_many.nd) (pss_one (ps_setL (i := 1) sc_law_many.nd (pe_op op_mulX (pvL 1) (pe_callBG (call_lenK (K := K) rfl) T.len bt_len (pa_c (pe_ix (ix_K (K := K) rfl) (pvL 0) (pe_int) (fun _ _ => rfl)) (pa_nil))))))) (pss_one (ps_ret (pvL 1)))), ?_⟩
    refine seq_go fun nn hN => ?_
    and_intros
    rw [hN]
    clear hN nn
    refine seq_go fun nn hN => ?_
    and_intros
    refine ⟨_, _, .l h1, atI_nat (j := 1) rfl, _, .of h2, fun p1 H1 hp1 s1 g1 => ?_⟩
    rw [show (1 : Int) = ((1 : Nat) : Int) from rfl, cutV_drop, ← List.map_drop] at g1
    refine .inl ⟨⟨_, .of g1⟩, for_lstO (xs := (ws.drop 1).map V.int) (fun i σ G => (∃ o2, σ = [some (V.ref p), some (V.int ((al.length : Int) ^ i)), o2]) ∧ G = H1) ⟨⟨_, rfl⟩, rfl⟩ ?_ ?_ ?_⟩
    · rintro i σ G _ ⟨_, rfl⟩
      exact .of g1
    · rintro i v σ G hi ⟨⟨o2, rfl⟩, rfl⟩ N hNx
      clear hN
      have hil := (List.getElem?_eq_some_iff.mp hi).1
      rw [List.length_map, List.length_drop] at hil
      and_intros
      refine ⟨_, _, .l (s1 _ _ h1), atI_nat (j := 0) rfl, ?_⟩
      and_intros
      rw [tx_len]
      have hb : ((al.length : Int) ^ i).natAbs ≤ 26 ^ 8 := by
        have e1 : ((al.length : Int)) ^ i = ((al.length ^ i : Nat) : Int) := by simp
        rw [e1, Int.natAbs_natCast]
        exact Nat.le_trans (Nat.pow_le_pow_left a26 _) (Nat.pow_le_pow_right (by decide) (by omega))
      refine ⟨Nat.le_of_lt (small_line (by omega)), ⟨Nat.lt_of_le_of_lt hb (by decide), Nat.lt_of_lt_of_le (show ((al.length : Int)).natAbs < 1000 by omega) (by decide)⟩, hNx _ _ ⟨⟨some v, by rw [Int.pow_succ]⟩, rfl⟩⟩
    · rintro σ G ⟨⟨o2, rfl⟩, rfl⟩
      show nn _ _ _
      rw [hN]
      clear hN nn
      and_intros
      rw [List.length_map, List.length_drop]
      exact k _ s1
def poolK (a b : Nat) : List (List Key) := [[.inr ("end" : Str)], [.inr ("part" : Str), .inr (tx [a])], [.inr ("phrase" : Str), .inr (tx [a])], [.inr ("part" : Str), .inr (tx [b])], [.inr ("phrase" : Str), .inr (tx [a, b])], [.inr ("part" : Str), .inr (tx [a, b])],
  [.inr ("phrase" : Str), .inr (tx [b, 32, a])], [.inr ("phrase" : Str), .inr (tx [b])], [.inr ("part" : Str), .inr (tx [a, b, a, b, a, a])], [.inr ("phrase" : Str), .inr (tx [a, 32, b])], [.inr ("part" : Str), .inr (tx [b, a])],
  [.inr ("phrase" : Str), .inr (tx [a, b, 32, a])], [.inr ("phrase" : Str), .inr (tx [b, a])], [.inr ("phrase" : Str), .inr (tx [a, 32, a, b, 32, b])]]
def PoolAt (H : Hp) (D : Addr) (a b : Nat) : Prop := ∃ ts : List Addr, H D = some (.lst (ts.map V.ref)) ∧ Paired (fun (t : Addr) (key : List Key) => H t = some (.tup (key.map kV))) ts (poolK a b)
def sp_law_pool : Sp := fun vs H Q _ => ∃ y : Int, vs = [.int y] ∧ 0 ≤ y ∧ ∀ D a b H', Same H H' → 97 ≤ a → a < 123 → 97 ≤ b → b < 123 → a ≠ b → PoolAt H' D a b → Q (.ref D) H'
theorem sc_law_pool : FnScope ["_law_cell", "_law_letters", "_law_a", "_law_b", "_law_some"] ["_law_cell"] (defScope s_law_pool) := ⟨rfl, rfl, rfl, by decide +kernel, rfl, by decide +kernel, by decide +kernel⟩
theorem ok_law_pool {f : Addr} {fd : FuncData} (F : Fun K "_law_pool" "_law_pool" s_law_pool f fd) (T : Bl mg) (AF : AdF K mg Ad)  : FnOk P w K mg base (CX1 P w) 1 f fd ["_law_cell"] sp_law_pool := by
  refine F.okX (k := 0) sc_law_pool (fun vs H Q E h => ?_) (fun cdv A outer s H vs Q E hr h => ?_)
  · obtain ⟨y, rfl, _⟩ := h
    rfl
  · obtain ⟨y, rfl, y0, k⟩ := h
    have hu := hr.units0
    have hu1 := hu_of hr
    refine ⟨_, pss_cons (ps_setL (i := 1) sc_law_pool.nd (pe_str)) (pss_cons (ps_setL (i := 2) sc_law_pool.nd (pe_ix (ix_K (K := K) rfl) (pvL 1) (pe_op op_modX (pvL 0) (pe_int)) (fun _ _ => rfl))) (pss_cons (ps_setL (i := 3) sc_law_pool.nd (pe_ix (ix_K (K := K) rfl) (pvL 1) (pe_op op_modX (pe_op op_addX (pe_op op_addX (pvL 0) (pe_int)) (pe_op op_modX (pe_op op_fdivX (pvL 0) (pe_int)) (pe_int))) (pe_int)) (fun _ _ => rfl))) (pss_cons (ps_setL (i := 4) sc_law_pool.nd (pe_lstX (pa_c (pe_tupX (pa_c (pe_str) (pa_nil))) (pa_c (pe_tupX (pa_c (pe_str) (pa_c (pvL 2) (pa_nil)))) (pa_c (pe_tupX (pa_c (pe_str) (pa_c (pvL 2) (pa_nil)))) (pa_c (pe_tupX (pa_c (pe_str) (pa_c (pvL 3) (pa_nil)))) (pa_c (pe_tupX (pa_c (pe_str) (pa_c (pe_op op_addX (pvL 2) (pvL 3)) (pa_nil)))) (pa_c (pe_tupX (pa_c (pe_str) (pa_c (pe_op op_addX (pvL 2) (pvL 3)) (pa_nil)))) (pa_nil))))))))) (pss_cons (ps_setL (i := 4) sc_law_pool.nd (pe_op op_addX (pvL 4) (pe_lstX (pa_c (pe_tupX (pa_c (pe_str) (pa_c (pe_op op_addX (pe_op op_addX (pvL 3) (pe_str)) (pvL 2)) (pa_nil)))) (pa_c (pe_tupX (pa_c (pe_str) (pa_c (pvL 3) (pa_nil)))) (pa_nil)))))) (pss_cons (ps_setL (i := 4) sc_law_pool.nd (pe_op op_addX (pvL 4) (pe_lstX (pa_c (pe_tupX (pa_c (pe_str) (pa_c (pe_op op_addX (pe_op op_addX (pe_op op_addX (pe_op op_addX (pe_op op_addX (pvL 2) (pvL 3)) (pvL 2)) (pvL 3)) (pvL 2)) (pvL 2)) (pa_nil)))) (pa_c (pe_tupX (pa_c (pe_str) (pa_c (pe_op op_addX (pe_op op_addX (pvL 2) (pe_str)) (pvL 3)) (pa_nil)))) (pa_c (pe_tupX (pa_c (pe_str) (pa_c (pe_op op_addX (pvL 3) (pvL 2)) (pa_nil)))) (pa_nil))))))) (pss_one (ps_ret (pe_op op_addX (pvL 4) (pe_lstX (pa_c (pe_tupX (pa_c (pe_str) (pa_c (pe_op op_addX (pe_op op_addX (pe_op op_addX (pvL 2) (pvL 3)) (pe_str)) (pvL 2)) (pa_nil)))) (pa_c (pe_tupX (pa_c (pe_str) (pa_c (pe_op op_addX (pvL 3) (pvL 2)) (pa_nil)))) (pa_c (pe_tupX (pa_c (pe_str) (pa_c (pe_op op_addX (pe_op op_addX (pe_op op_addX (pe_op op_addX (pe_op op_addX (pvL 2) (pe_str)) (pvL 2)) (pvL 3)) (pe_str)) (pvL 3)) (pa_nil)))) (pa_nil))))))))))))), ?_⟩
    have big : ∀ {u : Nat}, u ≤ 1000 → u ≤ sizeLine := fun hu => Nat.le_of_lt (small_line (by omega))
    refine seq_go fun nn hN => ?_
    and_intros
    rw [hN]
    clear hN nn
    refine seq_go fun nn hN => ?_
    and_intros
    have ya := Int.emod_nonneg y (show (26 : Int) ≠ 0 by decide)
    have yb := Int.emod_lt_of_pos y (show (0 : Int) < 26 by decide)
    refine ⟨by decide, big (by decide), 97 + (y % 26).toNat, atI_of ya (abc26 _ (by omega)), ?_⟩
    rw [hN]
    clear hN nn
    refine seq_go fun nn hN => ?_
    and_intros
    have y2a := Int.emod_nonneg (y + 1 + y / 26 % 25) (show (26 : Int) ≠ 0 by decide)
    have y2b := Int.emod_lt_of_pos (y + 1 + y / 26 % 25) (show (0 : Int) < 26 by decide)
    refine ⟨⟨by decide, by decide⟩, by decide, by decide, big (by decide), 97 + ((y + 1 + y / 26 % 25) % 26).toNat, atI_of y2a (abc26 _ (by omega)), ?_⟩
    have hab : 97 + (y % 26).toNat ≠ 97 + ((y + 1 + y / 26 % 25) % 26).toNat := by omega
    have a1 : 97 ≤ 97 + (y % 26).toNat ∧ 97 + (y % 26).toNat < 123 := by omega
    have b1 : 97 ≤ 97 + ((y + 1 + y / 26 % 25) % 26).toNat ∧ 97 + ((y + 1 + y / 26 % 25) % 26).toNat < 123 := by omega
    generalize 97 + (y % 26).toNat = a at hab a1
    generalize 97 + ((y + 1 + y / 26 % 25) % 26).toNat = b at hab b1
    clear ya yb y2a y2b
    have e32 : Str.ofString " " = tx [32] := rfl
    rw [show (⟨#[a]⟩ : Str) = tx [a] from rfl, show (⟨#[b]⟩ : Str) = tx [b] from rfl]
    rw [hN]
    clear hN nn
    refine seq_go fun nn hN => ?_
    and_intros
    simp only [e32, tx_app, tx_len, List.cons_append, List.nil_append, List.length_cons, List.length_nil]
    repeat refine ⟨big (by decide), ?_⟩
    intro t0 G0 _ s0 g0
    repeat refine ⟨big (by decide), ?_⟩
    intro t1 G1 _ s1 g1
    repeat refine ⟨big (by decide), ?_⟩
    intro t2 G2 _ s2 g2
    repeat refine ⟨big (by decide), ?_⟩
    intro t3 G3 _ s3 g3
    repeat refine ⟨big (by decide), ?_⟩
    intro t4 G4 _ s4 g4
    repeat refine ⟨big (by decide), ?_⟩
    intro t5 G5 _ s5 g5
    repeat refine ⟨big (by decide), ?_⟩
    intro D0 H0 _ r0 q0
    rw [hN]
    clear hN nn
    refine seq_go fun nn hN => ?_
    and_intros
    simp only [e32, tx_app, tx_len, List.cons_append, List.nil_append, List.length_cons, List.length_nil]
    repeat refine ⟨big (by decide), ?_⟩
    intro t6 G6 _ s6 g6
    repeat refine ⟨big (by decide), ?_⟩
    intro t7 G7 _ s7 g7
    repeat refine ⟨big (by decide), ?_⟩
    intro M1 K1 _ u1 v1
    have q1 := (s6.trans (s7.trans u1)) _ _ q0
    refine ⟨_, _, q1, v1, big (by simp), fun D1 H1 _ r1 w1 => ?_⟩
    simp only [List.cons_append, List.nil_append] at w1
    rw [hN]
    clear hN nn
    refine seq_go fun nn hN => ?_
    and_intros
    simp only [e32, tx_app, tx_len, List.cons_append, List.nil_append, List.length_cons, List.length_nil]
    repeat refine ⟨big (by decide), ?_⟩
    intro t8 G8 _ s8 g8
    repeat refine ⟨big (by decide), ?_⟩
    intro t9 G9 _ s9 g9
    repeat refine ⟨big (by decide), ?_⟩
    intro t10 G10 _ s10 g10
    repeat refine ⟨big (by decide), ?_⟩
    intro M2 K2 _ u2 v2
    have q2 := (s8.trans (s9.trans (s10.trans u2))) _ _ w1
    refine ⟨_, _, q2, v2, big (by simp), fun D2 H2 _ r2 w2 => ?_⟩
    simp only [List.cons_append, List.nil_append] at w2
    rw [hN]
    clear hN nn
    and_intros
    simp only [e32, tx_app, tx_len, List.cons_append, List.nil_append, List.length_cons, List.length_nil]
    repeat refine ⟨big (by decide), ?_⟩
    intro t11 G11 _ s11 g11
    repeat refine ⟨big (by decide), ?_⟩
    intro t12 G12 _ s12 g12
    repeat refine ⟨big (by decide), ?_⟩
    intro t13 G13 _ s13 g13
    repeat refine ⟨big (by decide), ?_⟩
    intro M3 K3 _ u3 v3
    have q3 := (s11.trans (s12.trans (s13.trans u3))) _ _ w2
    refine ⟨_, _, q3, v3, big (by simp), fun D3 H3 _ r3 w3 => ?_⟩
    simp only [List.cons_append, List.nil_append] at w3
    have z13 := u3.trans r3
    have z12 := s13.trans z13
    have z11 := s12.trans z12
    have zH2 := s11.trans z11
    have z10 := u2.trans (r2.trans zH2)
    have z9 := s10.trans z10
    have z8 := s9.trans z9
    have zH1 := s8.trans z8
    have z7 := u1.trans (r1.trans zH1)
    have z6 := s7.trans z7
    have z5 := r0.trans (s6.trans z6)
    have z4 := s5.trans z5
    have z3 := s4.trans z4
    have z2 := s3.trans z3
    have z1 := s2.trans z2
    have z0 := s1.trans z1
    refine k D3 a b H3 (s0.trans z0) a1.1 a1.2 b1.1 b1.2 hab ⟨[t0, t1, t2, t3, t4, t5, t6, t7, t8, t9, t10, t11, t12, t13], w3, ?_⟩
    exact .cons (z0 _ _ g0) (.cons (z1 _ _ g1) (.cons (z2 _ _ g2) (.cons (z3 _ _ g3) (.cons (z4 _ _ g4) (.cons (z5 _ _ g5) (.cons (z6 _ _ g6) (.cons (z7 _ _ g7) (.cons (z8 _ _ g8) (.cons (z9 _ _ g9) (.cons (z10 _ _ g10) (.cons (z11 _ _ g11) (.cons (z12 _ _ g12) (.cons (z13 _ _ g13) .nil)))))))))))))
def sp_are_safe : Sp := fun vs H Q _ => ∃ (p : Addr) (ws : List Int) (m : Int), vs = [.ref p, .int m] ∧ H p = some (.lst (ws.map V.int)) ∧ ws.length ≤ 1000 ∧ ∀ H', Same H H' → Q (.bl (Mk.safe m ws)) H'
theorem sc_are_safe : FnScope ["weights", "m", "differences"] ["weights", "m"] (defScope s_are_safe) := ⟨rfl, rfl, rfl, by decide +kernel, rfl, by decide +kernel, by decide +kernel⟩
theorem ok_are_safe {f : Addr} {fd : FuncData} (F : Fun K "are_safe" "are_safe" s_are_safe f fd) (T : Bl mg) (AF : AdF K mg Ad) (C_common_divisor : Fnc P w K mg base (CX1 P w) 1 "common_divisor" ["one", "other"] sp_common_divisor) : FnOk P w K mg base (CX1 P w) 2 f fd ["weights", "m"] sp_are_safe := by
  refine F.okX (k := 1) sc_are_safe (fun vs H Q E h => ?_) (fun cdv A outer s H vs Q E hr h => ?_)
  · obtain ⟨p, ws, m, rfl, _⟩ := h
    rfl
  · obtain ⟨p, ws, m, rfl, hp, hl, k⟩ := h
    have hu := hr.units0
    have hu1 := hu_of hr
    refine ⟨_, pss_cons (ps_setLC (i := 2) ["ahead", "behind"] sc_are_safe.nd rfl (Or.inl rfl) rfl ⟨rfl, by decide +kernel, rfl, by decide +kernel⟩ (.nil) (by decide +kernel) (pi_zipG (K := K) rfl T.zip (pa_c (pvL 0) (pa_c (pe_slice (sl_YK (K := K) rfl) (pvL 0) (po_some (pe_int)) (po_none)) (pa_nil)))) (fun _ _ _ _ => pg_tupK (K := K) (n := 2) rfl rfl (pgs_cons (pg_nameL (i := 0) (show (["ahead", "behind"] : List Str).Nodup from by decide +kernel)) (pgs_cons (pg_nameL (i := 1) (show (["ahead", "behind"] : List Str).Nodup from by decide +kernel)) (pgs_nil)))) (fun _ _ _ _ => pif_nil) (fun _ _ _ _ => pe_op op_subX (pvL 1) (pvL 0))) (pss_one (ps_ret (pe_callBG (call_allK (K := K) rfl rfl) T.all bt_all (pa_c (pe_lc ["number"] rfl ⟨rfl, by decide +kernel, rfl, by decide +kernel⟩ (.cons (j := 1) rfl (.inl (by kernel_rfl)) (.nil)) (by decide +kernel) (pi_seqK (K := K) rfl (pe_op op_addX (pvL 0) (pvL 2))) (fun _ _ _ _ => pg_nameL (i := 0) (show (["number", "m"] : List Str).Nodup from by decide +kernel)) (fun _ _ _ _ => pif_nil) (fun _ _ _ _ => pe_cmpR (op_eqK (K := K) rfl hu) (pe_callG C_common_divisor passE0 (hr.mono (by decide)) (pa_c (pvL 0) (pa_c (pvC 1) (pa_nil)))) (pe_int) (nomark _))) (pa_nil))))), ?_⟩
    ac_nf
    refine ⟨_, .of hp, fun q H1 hq s1 h1 => ?_⟩
    have hp1 : H1 p = some (.lst (ws.map V.int)) := s1 _ _ hp
    have ec : cutV (ws.map V.int) (some 1) none = (ws.drop 1).map V.int := by rw [show (1 : Int) = ((1 : Nat) : Int) from rfl, cutV_drop, List.map_drop]
    rw [ec] at h1
    refine ⟨⟨_, .of hp1⟩, ⟨_, .of h1⟩, lc_Z V.int V.int inj_int inj_int (.of hp1) (.of h1) (small_line (by omega)) (fun a b => .int (b - a)) ?_ ?_⟩
    · intro a b hab H' s' R hR
      ac_nf
      exact hR H' (Same.refl _)
    · intro D H2 hD s2 h2
      have e2 : H2 D = some (.lst ((Mk.dif ws).map V.int)) := by rw [h2]; unfold Mk.dif; rw [List.map_map]; rfl
      have hp2 : H2 p = some (.lst (ws.map V.int)) := s2 _ _ hp1
      have ldif : (Mk.dif ws).length ≤ 1000 := by unfold Mk.dif; rw [List.length_map, List.length_zip]; omega
      ac_nf
      refine ⟨_, _, hp2, e2, ?_, fun r H3 hr s3 h3 => .inl ⟨⟨_, .of h3⟩, ?_⟩⟩
      · rw [List.length_map, List.length_map]; exact Nat.le_of_lt (small_line (by omega))
      · rw [← List.map_append] at h3
        refine lc_M (xs := ws ++ Mk.dif ws) V.int inj_int (seq_list (.of h3)) (by rw [List.length_append]; exact small_line (by omega)) (fun n => .bl (Mk.cop m n)) ?_ ?_
        · intro n hn H' s' R hR
          ac_nf
          refine ⟨n, m, rfl, ?_⟩
          have e : decide (((Int.gcd n m : Nat) : Int) = 1) = Mk.cop m n := by
            unfold Mk.cop
            by_cases h : Int.gcd n m = 1
            · rw [decide_eq_true h]; exact decide_eq_true (by omega)
            · rw [decide_eq_false h]; exact decide_eq_false (by omega)
          show R (V.bl (decide (((Int.gcd n m : Nat) : Int) = 1))) H'
          rw [e]
          exact hR H' (Same.refl _)
        · intro D' H4 hD' s4 h4
          refine ⟨D', (ws ++ Mk.dif ws).map (Mk.cop m), rfl, .of (by rw [h4, List.map_map]; rfl), ?_⟩
          have ea : (((ws ++ Mk.dif ws).map (Mk.cop m)).all id) = Mk.safe m ws := by unfold Mk.safe; rw [List.all_map]; rfl
          rw [ea]
          exact k H4 (s1.trans (s2.trans (s3.trans s4)))
def isBelowV (b : Int) : V → Bool
  | .int i => decide (0 ≤ i) && decide (i < b)
  | _ => false
def sp_is_below : Sp := fun vs H Q _ => ∃ (x : V) (t : Tg) (b : Int), vs = [x, .int b] ∧ tagV H x = some t ∧ Q (.bl (isBelowV b x)) H
theorem sc_is_below : FnScope ["thing", "bound"] ["thing", "bound"] (defScope s_is_below) := ⟨rfl, rfl, rfl, by decide +kernel, rfl, by decide +kernel, by decide +kernel⟩
theorem ok_is_below {f : Addr} {fd : FuncData} (F : Fun K "is_below" "is_below" s_is_below f fd) (T : Bl mg) (AF : AdF K mg Ad) (C_is_whole : Fnc P w K mg base (CX1 P w) 1 "is_whole" ["thing"] sp_is_whole) : FnOk P w K mg base (CX1 P w) 2 f fd ["thing", "bound"] sp_is_below := by
  refine F.okX (k := 1) sc_is_below (fun vs H Q E h => ?_) (fun cdv A outer s H vs Q E hr h => ?_)
  · obtain ⟨x, t, b, rfl, _⟩ := h
    rfl
  · obtain ⟨x, t, b, rfl, ht, k⟩ := h
    have hu := hr.units0
    have hu1 := hu_of hr
    refine ⟨_, pss_one (ps_ret (pe_and (pe_callG C_is_whole pass_def (hr.mono (by decide)) (pa_c (pvL 0) (pa_nil))) (pe_one (pe_chain op_leX op_ltX (pe_int) (pvL 0) (pvL 1))))), ?_⟩
    by_cases hs : ∃ i, x = .int i
    · obtain ⟨i, rfl⟩ := hs
      cases ht
      ac_nf
      refine ⟨_, Tg.int, rfl, rfl, ?_⟩
      ac_nf
      have ek : isBelowV b (.int i) = (decide (0 ≤ i) && decide (i < b)) := rfl
      rw [ek] at k
      rw [if_pos (by simp)]
      cases h0 : decide (0 ≤ i) with
      | false => rw [h0, Bool.false_and] at k; bv_omega; exact k
      | true => rw [h0, Bool.true_and] at k; bv_omega; exact k
    · have hv : isBelowV b x = false := by
        cases x with
        | int i => exact absurd ⟨i, rfl⟩ hs
        | _ => rfl
      have hne : t ≠ Tg.int := fun e => by
        subst e
        cases x with
        | int i => exact hs ⟨i, rfl⟩
        | ref a =>
          have h' : tagO (H a) = some .int := ht
          cases e : H a with
          | none => rw [e] at h'; cases h'
          | some o => rw [e] at h'; cases o with
            | frz ob u => cases u <;> cases h'
            | _ => cases h'
        | _ => cases ht
      rw [hv] at k
      ac_nf
      refine ⟨x, t, rfl, ht, ?_⟩
      ac_nf
      rw [decide_eq_false hne]
      bv_omega
      exact k
def sp_are_words : Sp := fun vs H Q _ => ∃ (x : V) (t : Tg) (n : Nat), vs = [x, .int n] ∧ tagV H x = some t ∧ (∀ z, x = .str z → z.length ≤ 10000) ∧ n ≤ 1000 ∧ ∀ H', Same H H' → Q (.bl (areWdsV n x)) H'
theorem sc_are_words : FnScope ["thing", "most", "words"] ["thing", "most"] (defScope s_are_words) := ⟨rfl, rfl, rfl, by decide +kernel, rfl, by decide +kernel, by decide +kernel⟩
theorem ok_are_words {f : Addr} {fd : FuncData} (F : Fun K "are_words" "are_words" s_are_words f fd) (T : Bl mg) (AF : AdF K mg Ad) (C_are_letters : Fnc P w K mg base (CX1 P w) 1 "are_letters" ["thing", "most"] sp_are_letters) : FnOk P w K mg base (CX1 P w) 2 f fd ["thing", "most"] sp_are_words := by
  refine F.okX (k := 1) sc_are_words (fun vs H Q E h => ?_) (fun cdv A outer s H vs Q E hr h => ?_)
  · obtain ⟨x, t, n, rfl, _⟩ := h
    rfl
  · obtain ⟨x, t, n, rfl, ht, hz, hn, k⟩ := h
    have hu := hr.units0
    have hu1 := hu_of hr
    refine ⟨_, pss_cons (ps_if (pt_not (pt_val (pe_callBG (call_isiC .str) T.isinstance bt_isinstance (pa_c (pvL 0) (pa_c (pe_tyG T.str bt_str) (pa_nil)))))) (pss_one (ps_ret (pe_bl))) (pss_nil)) (pss_cons (ps_setL (i := 2) sc_are_words.nd (pe_bmG (K := K) rfl PySem.F.plainAttrs_str PySem.F.slot_str_split PySem.F.type_str_split mt_split (pvL 0) (pa_c (pe_str) (pa_nil)))) (pss_one (ps_ret (pe_and (pe_cmpR op_leX (pe_callBG (call_lenK (K := K) rfl) T.len bt_len (pa_c (pvL 2) (pa_nil))) (pvL 1) (nomark _)) (pe_one (pe_callBG (call_allK (K := K) rfl rfl) T.all bt_all (pa_c (pe_lc ["word"] rfl ⟨rfl, by decide +kernel, rfl, by decide +kernel⟩ (.nil) (by decide +kernel) (pi_seqK (K := K) rfl (pvL 2)) (fun _ _ _ _ => pg_nameL (i := 0) (show (["word"] : List Str).Nodup from by decide +kernel)) (fun _ _ _ _ => pif_nil) (fun _ _ _ _ => pe_callG C_are_letters passE0 (hr.mono (by decide)) (pa_c (pvL 0) (pa_c (pe_globE AF.v_LONGEST_WORD) (pa_nil))))) (pa_nil)))))))), ?_⟩
    by_cases hs : ∃ z, x = .str z
    · obtain ⟨z, rfl⟩ := hs
      cases ht
      have hl := hz z rfl
      have hc := len_cps z
      have ek : areWdsV n (.str z) = areWds n z.cps.toList := rfl
      ac_nf
      refine ⟨trivial, Tg.str, rfl, ?_⟩
      ac_nf
      obtain ⟨sl1, sl2⟩ := Mk.splitL_mem (c := 32) z.cps.toList
      refine ⟨rfl, by omega, 32, rfl, fun p H1 hp s1 h1 => ⟨_, .l h1, ?_⟩⟩
      rw [List.length_map]
      by_cases h2 : (Mk.splitL 32 z.cps.toList).length ≤ n
      · rw [decide_eq_true (show ((Mk.splitL 32 z.cps.toList).length : Int) ≤ (n : Int) by omega)]
        bv_omega
        refine .inl ⟨⟨_, .of h1⟩, lc_M (fun w : List Nat => V.str (tx w)) (fun a b e => tx_inj (V.str.inj e)) (seq_list (.of h1)) (small_line (by omega)) (fun w => .bl (areLet 20 w)) ?_ ?_⟩
        · intro w hw H2 s2 R hR
          have hwl := sl2 w hw
          ac_nf
          refine ⟨_, Tg.str, 20, rfl, rfl, (fun y e => by cases e; rw [tx_len]; omega), by decide, fun H3 s3 => ?_⟩
          have e : areLetV 20 (.str (tx w)) = areLet 20 w := by show areLet 20 (tx w).cps.toList = _; rw [tx_cps]
          rw [e]
          exact hR H3 s3
        · intro D H2 hD s2 h2'
          refine ⟨D, (Mk.splitL 32 z.cps.toList).map (areLet 20), rfl, .of (by rw [h2', List.map_map]; rfl), ?_⟩
          have e : ((Mk.splitL 32 z.cps.toList).map (areLet 20)).all id = areWdsV n (.str z) := by
            rw [ek]
            unfold areWds
            rw [decide_eq_true h2, List.all_map]; rfl
          rw [e]
          exact k H2 (s1.trans s2)
      · have e : areWdsV n (.str z) = false := by rw [ek]; unfold areWds; rw [decide_eq_false h2]; rfl
        rw [e] at k
        rw [decide_eq_false (show ¬ ((Mk.splitL 32 z.cps.toList).length : Int) ≤ (n : Int) by omega)]
        bv_omega
        exact k H1 s1
    · have hv : areWdsV n x = false := by
        cases x with
        | str z => exact absurd ⟨z, rfl⟩ hs
        | _ => rfl
      have hne := sub_str ht fun z e => hs ⟨z, e⟩
      rw [hv] at k
      ac_nf
      refine ⟨trivial, t, ht, ?_⟩
      cases t <;> first
        | exact absurd rfl hne
        | exact k H (Same.refl _)
def sp_Book_least_free (Ad : Ads) (spf : Sp) : Sp := fun vs H Q E => ∃ (b ca dn de f : Addr) (es : List Ben) (al : List Nat) (ws : List Int) (r n : Int) (bar : Int → Bool), vs = [.ref b, .ref f] ∧ BookAt Ad H b ca dn de es ∧ CodeAt Ad H ca al ws r ∧ CodeOk al ws r ∧ Bar spf bar H ∧ LeastB (es.map (·.num)) bar n ∧ ((n < ManyI al ws ∧ ∀ H', Same H H' → Q (.int n) H') ∨ (ManyI al ws ≤ n ∧ ∀ H', Same H H' → E (.ref Ad.TooMany) none H'))
theorem sc_Book_least_free : FnScope ["self", "is_barred", "k"] ["self", "is_barred"] (defScope s_Book_least_free) := ⟨rfl, rfl, rfl, by decide +kernel, rfl, by decide +kernel, by decide +kernel⟩
theorem ok_Book_least_free {f : Addr} {fd : FuncData} {k : Nat} (F : Fun K "least_free" "Book.least_free" s_Book_least_free f fd) (T : Bl mg) (AF : AdF K mg Ad) (M_Code_many : Mtd P w K mg base (CX1 P w) Ad.Code "many" 1 ["self"] (sp_Code_many Ad)) : FnOkS P w K mg base (CX1 P w) (k + 2) f fd ["self", "is_barred"] (spHO P w K mg base k 1 (sp_Book_least_free Ad)) := by
  refine F.okH (j := k + 1) (k := k) (n := 1) sc_Book_least_free (fun spf vs H Q E h => ?_) (fun cdv A outer s H vs Q E hr lf spf hlf lam step h => ?_)
  · obtain ⟨b, ca, dn, de, f, es, al, ws, r, n, bar, rfl, _⟩ := h
    rfl
  · obtain ⟨b, ca, dn, de, f, es, al, ws, r, n, bar, rfl, B, C, ok, Fb, Lf, k⟩ := h
    obtain rfl : f = lf := by cases hlf; rfl
    have hu := hr.units0
    have hu1 := hu_of hr
    refine ⟨_, pss_cons (ps_setL (i := 2) sc_Book_least_free.nd (pe_int)) (pss_cons (ps_while PassesOwn.leaving ((pw_or (pt_cmpR (op_inK (K := K) rfl hu1) (pvL 2) (pe_fldX (K := K) rfl (pvL 0)) (by kernel_rfl)) (pw_or1 (pt_val (pe_callStep step rfl (hr.mono (by omega)) (pvL 1) (pa_c (pvL 2) (pa_nil)))))).pt) (pss_one (ps_setL (i := 2) sc_Book_least_free.nd (pe_op op_addX (pvL 2) (pe_int))))) (pss_cons (ps_if (pt_cmpR (op_geL (K := K) rfl hu) (pvL 2) (pe_methX0 M_Code_many pass_def (hr.mono (by omega)) (pe_fldX (K := K) rfl (pvL 0))) (nomark _)) (pss_one (ps_raise PySem.F.excBase_ValueError AF.q_TooMany AF.g_TooMany raise_def rfl (pa_c (pe_str) (pa_nil)))) (pss_nil)) (pss_one (ps_ret (pvL 2))))), ?_⟩
    refine seq_go fun nn hN => ?_
    and_intros
    rw [hN]
    clear hN nn
    refine seq_go fun nn hN => ?_
    and_intros
    refine while_x (fun σ H' => ∃ k : Int, 0 ≤ k ∧ k ≤ n ∧ σ = [some (V.ref b), some (V.ref f), some (V.int k)] ∧ Same H H') (fun σ _ => match σ with | [_, _, some (V.int k)] => (n - k).toNat | _ => 0) ⟨0, by decide, Lf.pos, rfl, Same.refl _⟩ ?_
    rintro σ G ⟨j, j0, jn, rfl, t⟩
    have B1 := B.same t
    obtain ⟨dx, h1⟩ := B1.bk
    and_intros
    refine ⟨_, dx, _, _, h1, AF.c_Book, AF.n_Book_by_number, bookF_num ca dn de, ?_⟩
    refine .inr ⟨_, .inl ⟨_, .inl j, .inl B1.hn, rfl, rfl⟩, ?_⟩
    rw [num_is B.nn]
    by_cases hm : j ∈ es.map (·.num)
    · rw [decide_eq_true hm, if_pos rfl]
      have jl : j ≠ n := fun e => Lf.out (by rw [← e]; exact hm)
      refine ⟨fun σ G' => σ = [some (V.ref b), some (V.ref f), some (V.int (j + 1))] ∧ G' = G, ?_, rfl, rfl⟩
      rintro σ G' ⟨rfl, rfl⟩
      exact ⟨⟨j + 1, by omega, by omega, rfl, t⟩, show (n - (j + 1)).toNat < (n - j).toNat by omega⟩
    · rw [decide_eq_false hm, if_neg (by decide)]
      refine ⟨trivial, lam.same t, lam.same t, trivial, Fb.same t j G _ (Same.refl _) fun G1 t1 => ⟨_, rfl, ?_⟩⟩
      by_cases hb : bar j = true
      · rw [if_pos hb]
        have jl : j ≠ n := fun e => by rw [e, Lf.fr] at hb; cases hb
        refine ⟨fun σ G' => σ = [some (V.ref b), some (V.ref f), some (V.int (j + 1))] ∧ G' = G1, ?_, rfl, rfl⟩
        rintro σ G' ⟨rfl, rfl⟩
        exact ⟨⟨j + 1, by omega, by omega, rfl, t.trans t1⟩, show (n - (j + 1)).toNat < (n - j).toNat by omega⟩
      rw [if_neg hb]
      have je : j = n := by
        rcases Int.lt_or_eq_of_le jn with h | h
        · rcases Lf.all j j0 h with h | h
          · exact absurd h hm
          · exact absurd h hb
        · exact h
      subst je
      rw [hN]
      clear hN nn
      have C1 := C.same (t.trans t1)
      have B2 := B1.same t1
      obtain ⟨dx2, h12⟩ := B2.bk
      obtain ⟨dc, qc, hc1, hc2⟩ := id C1
      refine seq_go fun nn hN => ?_
      and_intros
      refine ⟨_, dx2, _, _, h12, AF.c_Book, AF.n_Book_basis, bookF_basis ca dn de, ?_⟩
      refine ⟨dc, _, hc1, codeF_none (by decide) (by decide) (by decide) al qc r, ca, al, ws, r, rfl, C1, ok.a26, by have := ok.w3; omega, ok.w8, fun G2 t2 => ?_⟩
      and_intros
      have em : (al.length : Int) ^ (ws.length - 1) = ManyI al ws := rfl
      rw [em]
      rcases k with ⟨hn, k⟩ | ⟨hn, k⟩
      · rw [decide_eq_false (show ¬ ManyI al ws ≤ j by omega)]
        bv_omega
        show nn _ _ _
        rw [hN]
        clear hN nn
        and_intros
        exact k G2 (t.trans (t1.trans t2))
      · rw [decide_eq_true hn]
        bv_omega
        exact ⟨Nat.le_of_lt (small_line (by decide)), k G2 (t.trans (t1.trans t2))⟩
def sp_law_weights : Sp := fun vs H Q _ => ∃ c m n : Int, vs = [.int c, .int m, .int n] ∧ 0 < m ∧ m ≤ 1000 ∧ 0 ≤ n ∧ n ≤ 1000 ∧ ∀ p H', H p = none → Same H H' → H' p = some (.lst ((Mk.wts c m n.toNat).map V.int)) → Q (.ref p) H'
theorem sc_law_weights : FnScope ["_law_cell", "_law_m", "_law_many_here", "_law_found", "_law_k", "_law_some"] ["_law_cell", "_law_m", "_law_many_here"] (defScope s_law_weights) := ⟨rfl, rfl, rfl, by decide +kernel, rfl, by decide +kernel, by decide +kernel⟩
theorem ok_law_weights {f : Addr} {fd : FuncData} (F : Fun K "_law_weights" "_law_weights" s_law_weights f fd) (T : Bl mg) (AF : AdF K mg Ad) (C_law_apart : Fnc P w K mg base (CX1 P w) 1 "_law_apart" ["_law_number", "_law_m"] sp_law_apart) : FnOk P w K mg base (CX1 P w) 2 f fd ["_law_cell", "_law_m", "_law_many_here"] sp_law_weights := by
  refine F.okX (k := 1) sc_law_weights (fun vs H Q E h => ?_) (fun cdv A outer s H vs Q E hr h => ?_)
  · obtain ⟨c, m, n, rfl, _⟩ := h
    rfl
  · obtain ⟨c, m, n, rfl, hm, hm2, hn0, hn, k⟩ := h
    have hu := hr.units0
    have hu1 := hu_of hr
    refine ⟨_, pss_cons (ps_setC (i := 3) sc_law_weights.nd (pe_lstX (pa_nil))) (pss_cons (ps_for PassesOwn.leaving rfl (pi_range1G T.range (pa_c (pvL 2) (pa_nil))) (pg_nameC (i := 4) sc_law_weights.nd) (pss_cons (ps_setLC (i := 5) ["_law_w"] sc_law_weights.nd rfl (Or.inl rfl) rfl ⟨rfl, by decide +kernel, rfl, by decide +kernel⟩ (.cons (j := 1) rfl (.inl (by kernel_rfl)) (.cons (j := 4) rfl (.inl (by kernel_rfl)) (.cons (j := 3) rfl (.inl (by kernel_rfl)) (.nil)))) (by decide +kernel) (pi_range1G T.range (pa_c (pvC 1) (pa_nil))) (fun _ _ _ _ => pg_nameL (i := 0) (show (["_law_w", "_law_m", "_law_k", "_law_found"] : List Str).Nodup from by decide +kernel)) (fun _ _ _ _ => pif_one ((pw_and (pt_val (pe_callG C_law_apart passE0 (hr.mono (by decide)) (pa_c (pvL 0) (pa_c (pvC 1) (pa_nil))))) (pw_and1 ((pw_or (pt_cmpR (op_eqK (K := K) rfl hu) (pvC 2) (pe_int) (nomark _)) (pw_or1 (pt_val (pe_callG C_law_apart passE0 (hr.mono (by decide)) (pa_c (pe_op op_subX (pvL 0) (pe_ix (ix_K (K := K) rfl) (pvC 3) (pe_op op_subX (pvC 2) (pe_int)) (fun _ _ => rfl))) (pa_c (pvC 1) (pa_nil))))))).pt))).pt)) (fun _ _ _ _ => pvL 0)) (pss_cons (ps_if (pt_cmpR (op_eqK (K := K) rfl hu) (pvL 5) (pe_lstX (pa_nil)) (nomark _)) (pss_one (ps_setL (i := 5) sc_law_weights.nd (pe_callTyG (call_listK (K := K) rfl rfl) T.list bt_list (pa_c (pe_callTyG call_rngX T.range bt_range (pa_c (pvC 1) (pa_nil))) (pa_nil))))) (pss_nil)) (pss_cons (ps_expr (pe_bmG (K := K) rfl PySem.F.plainAttrs_list PySem.F.slot_list_append PySem.F.type_list_append mt_append (pvC 3) (pa_c (pe_ix (ix_K (K := K) rfl) (pvL 5) (pe_op op_modX (pvL 0) (pe_callBG (call_lenK (K := K) rfl) T.len bt_len (pa_c (pvL 5) (pa_nil)))) (fun _ _ => rfl)) (pa_nil)))) (pss_one (ps_setL (i := 0) sc_law_weights.nd (pe_op op_fdivX (pvL 0) (pe_int)))))))) (pss_one (ps_ret (pvC 3)))), ?_⟩
    ac_nf
    refine ⟨by decide, fun p H0 hp s0 h0 => ?_⟩
    ac_nf
    refine ⟨by omega, by omega, ?_⟩
    refine for_rng (n := n.toNat) (fun i σ H' => ∃ (ci : Int) (fnd : List Int) (o1 o2 : Option V), σ = [some (.int ci), some (.int m), some (.int n), some (.ref p), o1, o2] ∧ fnd.length = i ∧ Same H H' ∧ H' p = some (.lst (fnd.map V.int)) ∧ Mk.wtsGo m (n.toNat - i) ci fnd = Mk.wts c m n.toNat) ?_ ?_ ?_
    · exact ⟨c, [], none, none, rfl, rfl, s0, h0, rfl⟩
    · rintro i σ H' hi ⟨ci, fnd, o1, o2, rfl, hlen, s1, h1, hgo⟩
      ac_nf
      refine ⟨by omega, by omega, ?_⟩
      refine lc_one (xs := (Mk.ofN m.toNat).map V.int) (seq_ofN _) (by rw [List.length_map, Mk.ofN_len]; exact small_line (by omega)) (pI fun w => Mk.cop m w && (fnd.isEmpty || Mk.cop m (w - fnd.getLastD 0))) (fun x => x) ?_ ?_ ?_
      · intro x hx H2 s2 R hR
        obtain ⟨w, rfl, hw⟩ := mem_ints hx
        have h2 : H2 p = some (.lst (fnd.map V.int)) := s2 _ _ h1
        ac_nf
        refine ⟨w, m, rfl, by omega, ?_⟩
        ac_nf
        have e0 : pI (fun w => Mk.cop m w && (fnd.isEmpty || Mk.cop m (w - fnd.getLastD 0))) (.int w) = (Mk.cop m w && (fnd.isEmpty || Mk.cop m (w - fnd.getLastD 0))) := rfl
        rw [e0] at hR
        cases hc : Mk.cop m w with
        | false =>
          rw [hc, Bool.false_and] at hR
          exact hR H2 (Same.refl _)
        | true =>
          rw [hc, Bool.true_and] at hR
          bv_omega
          cases hf : fnd with
          | nil =>
            rw [hf] at hlen
            have hi0 : i = 0 := hlen.symm
            subst hi0
            rw [if_pos (by simp)]
            rw [hf] at hR
            exact hR H2 (Same.refl _)
          | cons a r =>
            have hne : i ≠ 0 := by rw [← hlen, hf]; simp
            rw [if_neg (by simp; omega)]
            have hlast : (fnd.map V.int)[i - 1]? = some (.int (fnd.getLastD 0)) := by
              rw [List.getElem?_map, ← hlen, ← List.getLast?_eq_getElem?, List.getLastD_eq_getLast?, hf, List.getLast?_cons]; rfl
            have e2 : atI (fnd.map V.int) (0 + (i : Int) - 1) = some (.int (fnd.getLastD 0)) := by
              rw [show 0 + (i : Int) - 1 = ((i - 1 : Nat) : Int) by omega]; exact atI_nat hlast
            refine ⟨_, _, .l h2, e2, _, m, rfl, by omega, ?_⟩
            ac_nf
            have e3 : fnd.isEmpty = false := by rw [hf]; rfl
            rw [e3, Bool.false_or] at hR
            exact hR H2 (Same.refl _)
      · intro x hx _ H2 s2 R hR
        ac_nf
        exact hR H2 (Same.refl _)
      · intro D H2 hD s2 h2
        have h2' : H2 D = some (.lst ((Mk.cand m fnd).map V.int)) := by
          rw [h2, List.map_id', filter_pI]; rfl
        have hp2 : H2 p = some (.lst (fnd.map V.int)) := s2 _ _ h1
        have hsame : ∀ H3, Same H' H3 → Same H H3 := fun H3 e b o hb => by
          by_cases hbp : b = p
          · subst hbp; rw [hp] at hb; cases hb
          · exact e b o (s1 b o hb)
        have hpk := Mk.pick_lt hm fnd ci
        have hpos := Mk.pool_pos hm fnd
        have hat : atI ((Mk.pool m fnd).map V.int) (ci % ((Mk.pool m fnd).length : Int)) = some (.int ((Mk.pool m fnd).getD (ci % ((Mk.pool m fnd).length : Int)).toNat 0)) := by
          have e : ((Mk.pool m fnd).map V.int)[(ci % ((Mk.pool m fnd).length : Int)).toNat]? = some (.int ((Mk.pool m fnd).getD (ci % ((Mk.pool m fnd).length : Int)).toNat 0)) := by
            rw [List.getElem?_map, List.getD_eq_getElem?_getD, List.getElem?_eq_getElem (by omega)]; rfl
          have := atI_nat e
          rwa [Int.toNat_of_nonneg hpk.1] at this
        have hgo2 : Mk.wtsGo m (n.toNat - (i + 1)) (ci / 7) (fnd ++ [(Mk.pool m fnd).getD (ci % ((Mk.pool m fnd).length : Int)).toNat 0]) = Mk.wts c m n.toNat := by
          rw [← hgo, show n.toNat - i = (n.toNat - (i + 1)) + 1 by omega]; rfl
        ac_nf
        refine ⟨Nat.zero_le _, fun r H3 hr s3 h3 => ?_⟩
        refine ⟨_, _, .of (s3 _ _ h2'), .of h3, flat_ints _, rfl, ?_⟩
        have s4 : Same H' H3 := s2.trans s3
        have hp3 : H3 p = some (.lst (fnd.map V.int)) := s3 _ _ hp2
        cases hcand : Mk.cand m fnd with
        | nil =>
          have hpool : Mk.pool m fnd = Mk.ofN m.toNat := by unfold Mk.pool; rw [if_pos hcand]
          rw [if_pos (show eqVs (([] : List Int).map V.int) [] = true from rfl)]
          intro a H4 ha s5 h4
          refine ⟨_, .inr ⟨0, m, h4, ⟨by omega, by omega, by omega, by omega⟩, by omega, rfl⟩, fun l H5 hl s6 h5 => ?_⟩
          have hp5 : H5 p = some (.lst (fnd.map V.int)) := s6 _ _ (s5 _ _ hp3)
          have hl5 : H5 l = some (.lst ((Mk.pool m fnd).map V.int)) := by rw [h5, hpool, Int.sub_zero, rngV_ints]
          have s7 : Same H' H5 := s4.trans (s5.trans s6)
          ac_nf
          refine ⟨.inl ⟨rfl, _, .of hp5⟩, _, .l hl5, by rw [List.length_map]; omega, _, _, .l hl5, by rw [List.length_map]; exact hat, p, _, _, rfl, rfl, hp5, by rw [List.length_map]; exact small_line (by omega), ⟨by decide, by decide⟩, _, _, _, _, rfl, ?_, (hsame _ s7).upd_new hp, ?_, hgo2⟩
          · rw [List.length_append, hlen]; rfl
          · rw [upd_same, List.map_append]; rfl
        | cons x y =>
          have hpool : Mk.pool m fnd = Mk.cand m fnd := by unfold Mk.pool; rw [if_neg (by rw [hcand]; simp)]
          rw [if_neg (by simp [eqVs])]
          have hl3 : H3 D = some (.lst ((Mk.pool m fnd).map V.int)) := by rw [hpool]; exact s3 _ _ h2'
          refine ⟨.inl ⟨rfl, _, .of hp3⟩, _, .l hl3, by rw [List.length_map]; omega, _, _, .l hl3, by rw [List.length_map]; exact hat, p, _, _, rfl, rfl, hp3, by rw [List.length_map]; exact small_line (by omega), ⟨by decide, by decide⟩, _, _, _, _, rfl, ?_, (hsame _ s4).upd_new hp, ?_, hgo2⟩
          · rw [List.length_append, hlen]; rfl
          · rw [upd_same, List.map_append]; rfl
    · rintro σ H' ⟨ci, fnd, o1, o2, rfl, hlen, s1, h1, hgo⟩
      ac_nf
      refine k p H' hp s1 ?_
      rw [h1, ← hgo, Nat.sub_self]
      rfl
def areWeightsV (H : Hp) (m : Int) : V → Bool
  | .ref p => match H p with
    | some (.lst xs) => decide (3 ≤ xs.length) && decide (xs.length ≤ 8) && xs.all (isBelowV m)
    | _ => false
  | _ => false
def sp_are_weights : Sp := fun vs H Q _ => ∃ (x : V) (t : Tg) (m : Int), vs = [x, .int m] ∧ tagV H x = some t ∧ (∀ p o u, x = .ref p → H p ≠ some (.frz o u)) ∧ (∀ p xs, x = .ref p → H p = some (.lst xs) → xs.length ≤ 1000 ∧ ∀ y ∈ xs, ∃ t, tagV H y = some t) ∧
  ∀ H', Same H H' → Q (.bl (areWeightsV H m x)) H'
theorem sc_are_weights : FnScope ["thing", "m"] ["thing", "m"] (defScope s_are_weights) := ⟨rfl, rfl, rfl, by decide +kernel, rfl, by decide +kernel, by decide +kernel⟩
theorem ok_are_weights {f : Addr} {fd : FuncData} (F : Fun K "are_weights" "are_weights" s_are_weights f fd) (T : Bl mg) (AF : AdF K mg Ad) (C_is_below : Fnc P w K mg base (CX1 P w) 2 "is_below" ["thing", "bound"] sp_is_below) : FnOk P w K mg base (CX1 P w) 3 f fd ["thing", "m"] sp_are_weights := by
  refine F.okX (k := 2) sc_are_weights (fun vs H Q E h => ?_) (fun cdv A outer s H vs Q E hr h => ?_)
  · obtain ⟨x, t, m, rfl, _⟩ := h
    rfl
  · obtain ⟨x, t, m, rfl, ht, hfz, hit, k⟩ := h
    have hu := hr.units0
    have hu1 := hu_of hr
    refine ⟨_, pss_cons (ps_if ((pw_or (pt_not (pt_val (pe_callBG (call_isiC .lst) T.isinstance bt_isinstance (pa_c (pvL 0) (pa_c (pe_tyG T.list bt_list) (pa_nil)))))) (pw_or1 (pt_not (pt_chain op_leX op_leX (pe_int) (pe_callBG (call_lenK (K := K) rfl) T.len bt_len (pa_c (pvL 0) (pa_nil))) (pe_int))))).pt) (pss_one (ps_ret (pe_bl))) (pss_nil)) (pss_one (ps_ret (pe_callBG (call_allK (K := K) rfl rfl) T.all bt_all (pa_c (pe_lc ["weight"] rfl ⟨rfl, by decide +kernel, rfl, by decide +kernel⟩ (.cons (j := 1) rfl (.inl (by kernel_rfl)) (.nil)) (by decide +kernel) (pi_seqK (K := K) rfl (pvL 0)) (fun _ _ _ _ => pg_nameL (i := 0) (show (["weight", "m"] : List Str).Nodup from by decide +kernel)) (fun _ _ _ _ => pif_nil) (fun _ _ _ _ => pe_callG C_is_below passE0 (hr.mono (by decide)) (pa_c (pvL 0) (pa_c (pvC 1) (pa_nil))))) (pa_nil))))), ?_⟩
    by_cases hs : ∃ p xs, x = .ref p ∧ H p = some (.lst xs)
    · obtain ⟨p, xs, rfl, hp⟩ := hs
      obtain ⟨hl, hty⟩ := hit p xs rfl hp
      have et : t = Tg.lst := by
        have : tagO (H p) = some t := ht
        rw [hp] at this; cases this; rfl
      subst et
      have ek : areWeightsV H m (.ref p) = (decide (3 ≤ xs.length) && decide (xs.length ≤ 8) && xs.all (isBelowV m)) := by
        show (match H p with | some (.lst xs) => _ | _ => false) = _
        rw [hp]
      rw [ek] at k
      ac_nf
      refine ⟨trivial, Tg.lst, ht, ?_⟩
      ac_nf
      refine ⟨_, .l hp, ?_⟩
      by_cases h3 : 3 ≤ xs.length
      · rw [decide_eq_true h3, Bool.true_and] at k
        rw [decide_eq_true (show (3 : Int) ≤ (xs.length : Int) by omega)]
        bv_omega
        by_cases h8 : xs.length ≤ 8
        · rw [decide_eq_true h8, Bool.true_and] at k
          rw [decide_eq_true (show (xs.length : Int) ≤ 8 by omega)]
          bv_omega
          refine .inl ⟨⟨_, .of hp⟩, lc_map (xs := xs) (seq_list (.of hp)) (small_line (by omega)) (fun y => .bl (isBelowV m y)) ?_ ?_⟩
          · intro y hy H2 s2 R hR
            obtain ⟨ty, hty⟩ := hty y hy
            have hty2 : tagV H2 y = some ty := tag_same s2 hty
            ac_nf
            refine ⟨y, ty, m, rfl, hty2, ?_⟩
            exact hR H2 (Same.refl _)
          · intro D H2 hD s2 h2
            refine ⟨D, xs.map (isBelowV m), rfl, .of (by rw [h2, List.map_map]; rfl), ?_⟩
            have e : (xs.map (isBelowV m)).all id = xs.all (isBelowV m) := by rw [List.all_map]; rfl
            rw [e]
            exact k H2 s2
        · rw [decide_eq_false h8, Bool.false_and] at k
          rw [decide_eq_false (show ¬ (xs.length : Int) ≤ 8 by omega)]
          bv_omega
          exact k H (Same.refl _)
      · rw [decide_eq_false h3, Bool.false_and, Bool.false_and] at k
        rw [decide_eq_false (show ¬ (3 : Int) ≤ (xs.length : Int) by omega)]
        bv_omega
        exact k H (Same.refl _)
    · have hv : areWeightsV H m x = false := by
        cases x with
        | ref p =>
          show (match H p with | some (.lst xs) => _ | _ => false) = _
          split
          · rename_i xs hp; exact absurd ⟨p, xs, rfl, hp⟩ hs
          · rfl
        | _ => rfl
      have hne : t ≠ Tg.lst := fun e => by
        subst e
        cases x with
        | ref a =>
          have h' : tagO (H a) = some .lst := ht
          cases e : H a with
          | none => rw [e] at h'; cases h'
          | some o => rw [e] at h'; cases o with
            | lst xs => exact hs ⟨a, xs, rfl, e⟩
            | frz ob u => exact hfz a ob u rfl e
            | _ => cases h'
        | _ => cases ht
      rw [hv] at k
      ac_nf
      refine ⟨trivial, t, ht, ?_⟩
      cases t <;> first
        | exact absurd rfl hne
        | exact k H (Same.refl _)
def sp_is_entry : Sp := fun vs H Q _ => ∃ (x : V) (t : Tg), vs = [x] ∧ tagV H x = some t ∧ (∀ p xs, x = .ref p → H p = some (.tup xs) → xs.length ≤ 1000 ∧ ∀ y ∈ xs, (∃ t, tagV H y = some t) ∧ ∀ z, y = .str z → z.length ≤ 10000) ∧ ∀ H', Same H H' → Q (.bl (isEntV H x)) H'
theorem sc_is_entry : FnScope ["thing"] ["thing"] (defScope s_is_entry) := ⟨rfl, rfl, rfl, by decide +kernel, rfl, by decide +kernel, by decide +kernel⟩
theorem ok_is_entry {f : Addr} {fd : FuncData} (F : Fun K "is_entry" "is_entry" s_is_entry f fd) (T : Bl mg) (AF : AdF K mg Ad) (C_are_letters : Fnc P w K mg base (CX1 P w) 1 "are_letters" ["thing", "most"] sp_are_letters) (C_are_words : Fnc P w K mg base (CX1 P w) 2 "are_words" ["thing", "most"] sp_are_words) : FnOk P w K mg base (CX1 P w) 3 f fd ["thing"] sp_is_entry := by
  refine F.okX (k := 2) sc_is_entry (fun vs H Q E h => ?_) (fun cdv A outer s H vs Q E hr h => ?_)
  · obtain ⟨x, t, rfl, _⟩ := h
    rfl
  · obtain ⟨x, t, rfl, ht, hit, k⟩ := h
    have hu := hr.units0
    have hu1 := hu_of hr
    refine ⟨_, pss_cons (ps_if ((pw_or (pt_not (pt_val (pe_callBG (call_isiC .tup) T.isinstance bt_isinstance (pa_c (pvL 0) (pa_c (pe_tyG T.tuple bt_tuple) (pa_nil)))))) (pw_or (pt_cmpR (op_eqK (K := K) rfl hu) (pe_callBG (call_lenK (K := K) rfl) T.len bt_len (pa_c (pvL 0) (pa_nil))) (pe_int) (nomark _)) (pw_or1 (pt_not (pt_val (pe_callBG (call_isiC .str) T.isinstance bt_isinstance (pa_c (pe_ix (ix_K (K := K) rfl) (pvL 0) (pe_int) (fun _ _ => rfl)) (pa_c (pe_tyG T.str bt_str) (pa_nil))))))))).pt) (pss_one (ps_ret (pe_bl))) (pss_nil)) (pss_cons (ps_if (pt_cmpR (op_eqK (K := K) rfl hu) (pe_callBG (call_lenK (K := K) rfl) T.len bt_len (pa_c (pvL 0) (pa_nil))) (pe_int) (nomark _)) (pss_one (ps_ret (pe_cmpR (op_eqK (K := K) rfl hu) (pe_ix (ix_K (K := K) rfl) (pvL 0) (pe_int) (fun _ _ => rfl)) (pe_str) (nomark _)))) (pss_nil)) (pss_cons (ps_if (pt_cmpR (op_neK (K := K) rfl hu) (pe_callBG (call_lenK (K := K) rfl) T.len bt_len (pa_c (pvL 0) (pa_nil))) (pe_int) (nomark _)) (pss_one (ps_ret (pe_bl))) (pss_nil)) (pss_cons (ps_if (pt_cmpR (op_eqK (K := K) rfl hu) (pe_ix (ix_K (K := K) rfl) (pvL 0) (pe_int) (fun _ _ => rfl)) (pe_str) (nomark _)) (pss_one (ps_ret (pe_callG C_are_words pass_def (hr.mono (by decide)) (pa_c (pe_ix (ix_K (K := K) rfl) (pvL 0) (pe_int) (fun _ _ => rfl)) (pa_c (pe_globE AF.v_MOST_PHRASE_WORDS) (pa_nil)))))) (pss_nil)) (pss_one (ps_ret (pe_and (pe_cmpR (op_eqK (K := K) rfl hu) (pe_ix (ix_K (K := K) rfl) (pvL 0) (pe_int) (fun _ _ => rfl)) (pe_str) (nomark _)) (pe_one (pe_callG C_are_letters pass_def (hr.mono (by decide)) (pa_c (pe_ix (ix_K (K := K) rfl) (pvL 0) (pe_int) (fun _ _ => rfl)) (pa_c (pe_globE AF.v_MOST_PART_LETTERS) (pa_nil))))))))))), ?_⟩
    by_cases hs : ∃ p xs, x = .ref p ∧ H p = some (.tup xs)
    · obtain ⟨p, xs, rfl, hp⟩ := hs
      obtain ⟨hl, hty⟩ := hit p xs rfl hp
      have et : t = Tg.tup := by
        have : tagO (H p) = some t := ht
        rw [hp] at this; cases this; rfl
      subst et
      have ek : isEntV H (.ref p) = isEntL xs := by
        show (match H p with | some (.tup xs) => isEntL xs | _ => false) = _
        rw [hp]
      rw [ek] at k
      have hT : Sq K H p xs := .t hp
      rw [ap_seq]
      and_intros
      refine ⟨trivial, Tg.tup, ht, ?_⟩
      and_intros
      refine ⟨_, hT, ?_⟩
      match xs, hT, hty, hl, k with
      | [], hT, hty, hl, k =>
        and_intros
        exact k H (Same.refl _)
      | v :: r, hT, hty, hl, k =>
        rw [decide_eq_false (show ¬ (((v :: r).length : Nat) : Int) = 0 by rw [List.length_cons]; omega)]
        bv_omega
        have a0 : atI (v :: r) 0 = some v := atI_nat (xs := v :: r) (j := 0) rfl
        refine ⟨_, v, hT, a0, ?_⟩
        obtain ⟨⟨tv, htv⟩, hzv⟩ := hty v List.mem_cons_self
        by_cases hvs : ∃ z, v = .str z
        · obtain ⟨z, rfl⟩ := hvs
          refine ⟨Tg.str, rfl, ?_⟩
          and_intros
          rw [ap_seq]
          and_intros
          refine ⟨_, hT, ?_⟩
          match r, hT, hty, hl, k with
          | [], hT, hty, hl, k =>
            and_intros
            rw [if_pos (by rfl)]
            refine ⟨_, _, hT, atI_nat (xs := [V.str z]) (j := 0) rfl, k H (Same.refl _)⟩
          | [y], hT, hty, hl, k =>
            rw [decide_eq_false (show ¬ ((([V.str z, y] : List V).length : Nat) : Int) = 1 by show ¬ (2 : Int) = 1; decide)]
            bv_omega
            obtain ⟨⟨ty, hty1⟩, hzy⟩ := hty y (List.mem_cons_of_mem _ List.mem_cons_self)
            have a0 : atI [V.str z, y] 0 = some (.str z) := atI_nat (xs := [V.str z, y]) (j := 0) rfl
            have a1 : atI [V.str z, y] 1 = some y := atI_nat (xs := [V.str z, y]) (j := 1) rfl
            rw [ap_seq]
            and_intros
            refine ⟨_, hT, ?_⟩
            rw [if_neg (show ¬ (!decide ((([V.str z, y].length : Nat) : Int) = 2)) = true by rw [show [V.str z, y].length = 2 from rfl]; decide)]
            rw [ap_seq]
            and_intros
            refine ⟨_, _, hT, a0, ?_⟩
            and_intros
            have ek2 : isEntL [.str z, y] = if z = ("phrase" : Str) then areWdsV 6 y else if z = ("part" : Str) then areLetV 6 y else false := rfl
            rw [ek2] at k
            by_cases e1 : z = ("phrase" : Str)
            · rw [if_pos e1] at k
              rw [decide_eq_true e1]
              bv_omega
              refine ⟨_, _, hT, a1, ?_⟩
              exact ⟨y, ty, 6, rfl, hty1, hzy, by decide, k⟩
            · rw [if_neg e1] at k
              rw [decide_eq_false e1]
              bv_omega
              and_intros
              refine ⟨_, _, hT, a0, ?_⟩
              and_intros
              by_cases e2 : z = ("part" : Str)
              · rw [if_pos e2] at k
                rw [decide_eq_true e2]
                bv_omega
                refine ⟨_, _, hT, a1, ?_⟩
                exact ⟨y, ty, 6, rfl, hty1, (fun w e => by have := hzy w e; omega), by decide, k⟩
              · rw [if_neg e2] at k
                rw [decide_eq_false e2]
                bv_omega
                exact k H (Same.refl _)
          | y :: y2 :: r, hT, hty, hl, k =>
            have hlen : (V.str z :: y :: y2 :: r).length = r.length + 3 := rfl
            rw [hlen, decide_eq_false (show ¬ (((r.length + 3 : Nat)) : Int) = 1 by omega)]
            bv_omega
            rw [ap_seq]
            and_intros
            refine ⟨_, hT, ?_⟩
            rw [hlen, decide_eq_false (show ¬ (((r.length + 3 : Nat)) : Int) = 2 by omega)]
            bv_omega
            exact k H (Same.refl _)
        · have hv : isEntL (v :: r) = false := by
            cases v with
            | str z => exact absurd ⟨z, rfl⟩ hvs
            | _ => cases r with
              | nil => rfl
              | cons y r => cases r <;> rfl
          have hne := sub_str htv fun z e => hvs ⟨z, e⟩
          rw [hv] at k
          refine ⟨tv, htv, ?_⟩
          cases tv <;> first
            | exact absurd rfl hne
            | exact k H (Same.refl _)
    · have hv : isEntV H x = false := by
        cases x with
        | ref p =>
          show (match H p with | some (.tup xs) => isEntL xs | _ => false) = _
          split
          · rename_i xs hp; exact absurd ⟨p, xs, rfl, hp⟩ hs
          · rfl
        | _ => rfl
      have hne : t ≠ Tg.tup := fun e => by
        subst e
        cases x with
        | ref a =>
          have h' : tagO (H a) = some .tup := ht
          cases e : H a with
          | none => rw [e] at h'; cases h'
          | some o => rw [e] at h'; cases o with
            | tup xs => exact hs ⟨a, xs, rfl, e⟩
            | frz ob u => cases u <;> cases h'
            | _ => cases h'
        | _ => cases ht
      rw [hv] at k
      rw [ap_seq]
      and_intros
      refine ⟨trivial, t, ht, ?_⟩
      cases t <;> first
        | exact absurd rfl hne
        | exact k H (Same.refl _)
def sp_is_day : Sp := fun vs H Q _ => ∃ (x : V) (t : Tg), vs = [x] ∧ tagV H x = some t ∧ Q (.bl (isBelowV 1000000001 x)) H
theorem sc_is_day : FnScope ["thing"] ["thing"] (defScope s_is_day) := ⟨rfl, rfl, rfl, by decide +kernel, rfl, by decide +kernel, by decide +kernel⟩
theorem ok_is_day {f : Addr} {fd : FuncData} (F : Fun K "is_day" "is_day" s_is_day f fd) (T : Bl mg) (AF : AdF K mg Ad) (C_is_below : Fnc P w K mg base (CX1 P w) 2 "is_below" ["thing", "bound"] sp_is_below) : FnOk P w K mg base (CX1 P w) 3 f fd ["thing"] sp_is_day := by
  refine F.okX (k := 2) sc_is_day (fun vs H Q E h => ?_) (fun cdv A outer s H vs Q E hr h => ?_)
  · obtain ⟨x, t, rfl, _⟩ := h
    rfl
  · obtain ⟨x, t, rfl, ht, k⟩ := h
    have hu := hr.units0
    have hu1 := hu_of hr
    refine ⟨_, pss_one (ps_ret (pe_callG C_is_below pass_def (hr.mono (by decide)) (pa_c (pvL 0) (pa_c (pe_op op_addX (pe_globE AF.v_LATEST_DAY) (pe_int)) (pa_nil))))), ?_⟩
    and_intros
    exact ⟨x, t, _, rfl, ht, k⟩
def sp_Editions_init (Ad : Ads) : Sp := fun vs H Q _ => ∃ (x dx ca : Addr), vs = [.ref x, .ref ca] ∧ H x = some (.ins Ad.Editions dx []) ∧ ∀ b dn de cl sd H', H b = none → H dn = none → H de = none → H cl = none → H sd = none → dn ≠ sd → (∀ c o, c ≠ x → H c = some o → H' c = some o) → H' x = some (.ins Ad.Editions dx (edF b cl sd 0)) → BookAt Ad H' b ca dn de [] → H' cl = some (.lst []) → H' sd = some (.dK []) → Q .non H'
theorem sc_Editions_init : FnScope ["self", "code"] ["self", "code"] (defScope s_Editions_init) := ⟨rfl, rfl, rfl, by decide +kernel, rfl, by decide +kernel, by decide +kernel⟩
theorem ok_Editions_init {f : Addr} {fd : FuncData} (F : Fun K "__init__" "Editions.__init__" s_Editions_init f fd) (T : Bl mg) (AF : AdF K mg Ad) (K_Book : Mak P w K mg base (CX1 P w) Ad.Book "Book" 1 ["self", "code"] (sp_Book_init Ad)) : FnOk P w K mg base (CX1 P w) 3 f fd ["self", "code"] (sp_Editions_init Ad) := by
  refine F.okX (k := 2) sc_Editions_init (fun vs H Q E h => ?_) (fun cdv A outer s H vs Q E hr h => ?_)
  · obtain ⟨x, dx, ca, rfl, _⟩ := h
    rfl
  · obtain ⟨x, dx, ca, rfl, hx, k⟩ := h
    have hu := hr.units0
    have hu1 := hu_of hr
    refine ⟨_, pss_cons (ps_fldX (K := K) rfl (pvL 0) (pe_makeX K_Book pass_def (hr.mono (by decide)) (pa_c (pvL 1) (pa_nil)))) (pss_cons (ps_fldX (K := K) rfl (pvL 0) (pe_lstX (pa_nil))) (pss_cons (ps_fldX (K := K) rfl (pvL 0) (pe_dnewX)) (pss_one (ps_fldX (K := K) rfl (pvL 0) (pe_int))))), ?_⟩
    refine seq_go fun nn hN => ?_
    and_intros
    intro b bx G1 hb hbx hbb t1 g1 g1x
    refine ⟨b, bx, ca, rfl, g1, fun dn de G2 hdn hde ne1 ne2 ne3 k2 g2 gn ge => ⟨rfl, ?_⟩⟩
    have nxb : x ≠ b := fun z => by rw [← z, hx] at hb; cases hb
    have hx2 := k2 x _ nxb (t1 _ _ hx)
    have hdn0 : H dn = none := t1.free hdn
    have hde0 : H de = none := t1.free hde
    have nxn : x ≠ dn := fun z => by rw [← z, hx] at hdn0; cases hdn0
    have nxe : x ≠ de := fun z => by rw [← z, hx] at hde0; cases hde0
    refine ⟨_, _, _, hx2, AF.c_Editions, AF.n_Editions_current, by decide, ?_⟩
    rw [hN]
    clear hN nn
    have h3 : upd G2 x (HO.ins Ad.Editions dx (putF (Str.ofString "current") (V.ref b) [])) x = some (.ins Ad.Editions dx [("current", .ref b)]) := upd_same
    have k3 : ∀ c o, c ≠ x → G2 c = some o → upd G2 x (HO.ins Ad.Editions dx (putF (Str.ofString "current") (V.ref b) [])) c = some o := fun c o hc e => by rw [upd_ne hc]; exact e
    have f3 : ∀ c, c ≠ x → upd G2 x (HO.ins Ad.Editions dx (putF (Str.ofString "current") (V.ref b) [])) c = none → G2 c = none := fun c hc e => by rw [upd_ne hc] at e; exact e
    generalize upd G2 x (HO.ins Ad.Editions dx (putF (Str.ofString "current") (V.ref b) [])) = G3 at h3 k3 f3
    refine seq_go fun nn hN => ?_
    and_intros
    refine ⟨Nat.zero_le _, fun cl G4 hcl t4 g4 => ⟨_, _, _, t4 _ _ h3, AF.c_Editions, AF.n_Editions_changes, by show 1 < 1000; decide, ?_⟩⟩
    rw [hN]
    clear hN nn
    have nxc : x ≠ cl := fun z => by rw [← z, h3] at hcl; cases hcl
    have h5 : upd G4 x (HO.ins Ad.Editions dx (putF (Str.ofString "changes") (V.ref cl) [("current", .ref b)])) x = some (.ins Ad.Editions dx [("current", .ref b), ("changes", .ref cl)]) := upd_same
    have k5 : ∀ c o, c ≠ x → G4 c = some o → upd G4 x (HO.ins Ad.Editions dx (putF (Str.ofString "changes") (V.ref cl) [("current", .ref b)])) c = some o := fun c o hc e => by rw [upd_ne hc]; exact e
    have f5 : ∀ c, c ≠ x → upd G4 x (HO.ins Ad.Editions dx (putF (Str.ofString "changes") (V.ref cl) [("current", .ref b)])) c = none → G4 c = none := fun c hc e => by rw [upd_ne hc] at e; exact e
    generalize upd G4 x (HO.ins Ad.Editions dx (putF (Str.ofString "changes") (V.ref cl) [("current", .ref b)])) = G5 at h5 k5 f5
    refine seq_go fun nn hN => ?_
    and_intros
    refine fun sd G6 hsd t6 g6 => ⟨_, _, _, t6 _ _ h5, AF.c_Editions, AF.n_Editions_struck, by show 2 < 1000; decide, ?_⟩
    rw [hN]
    clear hN nn
    have nxs : x ≠ sd := fun z => by rw [← z, h5] at hsd; cases hsd
    have h7 : upd G6 x (HO.ins Ad.Editions dx (putF (Str.ofString "struck") (V.ref sd) [("current", .ref b), ("changes", .ref cl)])) x = some (.ins Ad.Editions dx [("current", .ref b), ("changes", .ref cl), ("struck", .ref sd)]) := upd_same
    have k7 : ∀ c o, c ≠ x → G6 c = some o → upd G6 x (HO.ins Ad.Editions dx (putF (Str.ofString "struck") (V.ref sd) [("current", .ref b), ("changes", .ref cl)])) c = some o := fun c o hc e => by rw [upd_ne hc]; exact e
    generalize upd G6 x (HO.ins Ad.Editions dx (putF (Str.ofString "struck") (V.ref sd) [("current", .ref b), ("changes", .ref cl)])) = G7 at h7 k7
    and_intros
    refine ⟨_, _, _, h7, AF.c_Editions, AF.n_Editions_latest, by show 3 < 1000; decide, ?_⟩
    have e24 : ∀ c o, c ≠ x → G2 c = some o → G4 c = some o := fun c o hc e => t4 _ _ (k3 c o hc e)
    have e46 : ∀ c o, c ≠ x → G4 c = some o → G6 c = some o := fun c o hc e => t6 _ _ (k5 c o hc e)
    have e02 : ∀ c o, H c = some o → G2 c = some o := fun c o e => k2 c o (fun z => by rw [z, hb] at e; cases e) (t1 _ _ e)
    have c2 : G2 cl = none := f3 cl nxc.symm hcl
    have s4 : G4 sd = none := f5 sd nxs.symm hsd
    have fin : ∀ c o, c ≠ x → G6 c = some o → upd G7 x (HO.ins Ad.Editions dx (putF (Str.ofString "latest") (V.int 0) [("current", .ref b), ("changes", .ref cl), ("struck", .ref sd)])) c = some o := fun c o hc e => by rw [upd_ne hc]; exact k7 c o hc e
    have fin2 : ∀ c o, c ≠ x → G2 c = some o → upd G7 x (HO.ins Ad.Editions dx (putF (Str.ofString "latest") (V.int 0) [("current", .ref b), ("changes", .ref cl), ("struck", .ref sd)])) c = some o := fun c o hc e => fin c o hc (e46 c o hc (e24 c o hc e))
    refine k b dn de cl sd _ hb hdn0 hde0 ?_ ?_ ?_ (fun c o hc e => fin2 c o hc (e02 c o e)) upd_same ⟨⟨bx, fin2 _ _ nxb.symm g2⟩, fin2 _ _ nxn.symm gn, fin2 _ _ nxe.symm ge, (fun e he => by cases he), .nil, .nil⟩ (fin _ _ nxc.symm (e46 _ _ nxc.symm g4)) (fin _ _ nxs.symm g6)
    · cases e : H cl with
      | none => rfl
      | some o => rw [e02 cl o e] at c2; cases c2
    · cases e : H sd with
      | none => rfl
      | some o => rw [e24 sd o nxs.symm (e02 sd o e)] at s4; cases s4
    · intro z
      rw [← z, e24 dn _ nxn.symm gn] at s4
      cases s4
def lets (b st : Int) (m : Nat) : List Nat := (List.range m).map fun k : Nat => 97 + ((b + st * (k : Int)) % 26).toNat
theorem lets_nd {b st : Int} {m : Nat} (hm : m ≤ 9) (hs : st = 1 ∨ st = 25 ∨ st = 3 ∨ st = 7) : (lets b st m).Nodup := by
  unfold lets
  refine List.pairwise_map.mpr (List.Pairwise.imp_of_mem (R := (· < ·)) (fun {i j} hi hj hij e => ?_) List.pairwise_lt_range)
  have hi' := List.mem_range.mp hi
  have hj' := List.mem_range.mp hj
  rcases hs with rfl | rfl | rfl | rfl <;> omega
theorem lets_abc {b st : Int} {m : Nat} : ∀ c ∈ lets b st m, 97 ≤ c ∧ c < 123 := fun c hc => by
  unfold lets at hc
  obtain ⟨k, _, rfl⟩ := List.mem_map.mp hc
  have := Int.emod_nonneg (b + st * (k : Int)) (show (26 : Int) ≠ 0 by decide)
  have := Int.emod_lt_of_pos (b + st * (k : Int)) (show (0 : Int) < 26 by decide)
  omega
def sp_law_code_parts (K : PySem.W.Frag) : Sp := fun vs H Q _ => ∃ (a : Addr) (ns : List Int), vs = [.ref a] ∧ SqL K H a (ns.map V.int) ∧ ∀ p q al ws r H', Same H H' → Parts H' p q al ws r → CodeOk al ws r → al.length ≤ 9 → 3 ≤ ws.length → ws.length ≤ 6 → Q (.ref p) H'
theorem sc_law_code_parts : FnScope ["_law_script", "_law_cell", "_law_some", "_law_m", "_law_step", "_law_alphabet"] ["_law_script"] (defScope s_law_code_parts) := ⟨rfl, rfl, rfl, by decide +kernel, rfl, by decide +kernel, by decide +kernel⟩
theorem ok_law_code_parts {f : Addr} {fd : FuncData} (F : Fun K "_law_code_parts" "_law_code_parts" s_law_code_parts f fd) (T : Bl mg) (AF : AdF K mg Ad) (C_law_weights : Fnc P w K mg base (CX1 P w) 2 "_law_weights" ["_law_cell", "_law_m", "_law_many_here"] sp_law_weights) (C_law_mixed : Fnc P w K mg base (CX1 P w) 1 "_law_mixed" ["_law_cell"] sp_law_mixed) (C_law_cell_at : Fnc P w K mg base (CX1 P w) 1 "_law_cell_at" ["_law_script", "_law_k"] (sp_law_cell_at K)) : FnOk P w K mg base (CX1 P w) 3 f fd ["_law_script"] (sp_law_code_parts K) := by
  refine F.okX (k := 2) sc_law_code_parts (fun vs H Q E h => ?_) (fun cdv A outer s H vs Q E hr h => ?_)
  · obtain ⟨a, ns, rfl, _⟩ := h
    rfl
  · obtain ⟨a, ns, rfl, hS, k⟩ := h
    have hu := hr.units0
    have hu1 := hu_of hr
    refine ⟨_, pss_cons (ps_setC (i := 1) sc_law_code_parts.nd (pe_callG C_law_mixed pass_def (hr.mono (by decide)) (pa_c (pe_callG C_law_cell_at pass_def (hr.mono (by decide)) (pa_c (pvL 0) (pa_c (pe_int) (pa_nil)))) (pa_nil)))) (pss_cons (ps_setC (i := 2) sc_law_code_parts.nd (pe_str)) (pss_cons (ps_setL (i := 3) sc_law_code_parts.nd (pe_ix (ix_K (K := K) rfl) (pe_lstX (pa_c (pe_int) (pa_c (pe_int) (pa_c (pe_int) (pa_c (pe_int) (pa_nil)))))) (pe_op op_modX (pvC 1) (pe_int)) (fun _ _ => rfl))) (pss_cons (ps_setC (i := 4) sc_law_code_parts.nd (pe_ix (ix_K (K := K) rfl) (pe_lstX (pa_c (pe_int) (pa_c (pe_int) (pa_c (pe_int) (pa_c (pe_int) (pa_nil)))))) (pe_op op_modX (pe_op op_fdivX (pvC 1) (pe_int)) (pe_int)) (fun _ _ => rfl))) (pss_cons (ps_setL (i := 5) sc_law_code_parts.nd (pe_bmG (K := K) rfl PySem.F.plainAttrs_str PySem.F.slot_str_join PySem.F.type_str_join (mt_joinK (K := K) rfl) (pe_str) (pa_c (pe_lc ["_law_k"] rfl ⟨rfl, by decide +kernel, rfl, by decide +kernel⟩ (.cons (j := 2) rfl (.inl (by kernel_rfl)) (.cons (j := 1) rfl (.inl (by kernel_rfl)) (.cons (j := 4) rfl (.inl (by kernel_rfl)) (.nil)))) (by decide +kernel) (pi_range1G T.range (pa_c (pvL 3) (pa_nil))) (fun _ _ _ _ => pg_nameL (i := 0) (show (["_law_k", "_law_some", "_law_cell", "_law_step"] : List Str).Nodup from by decide +kernel)) (fun _ _ _ _ => pif_nil) (fun _ _ _ _ => pe_ix (ix_K (K := K) rfl) (pvC 1) (pe_op op_modX (pe_op op_addX (pe_op op_fdivX (pvC 2) (pe_int)) (pe_op op_mulX (pvC 3) (pvL 0))) (pe_int)) (fun _ _ => rfl))) (pa_nil)))) (pss_one (ps_ret (pe_lstX (pa_c (pvL 5) (pa_c (pe_callG C_law_weights pass_def (hr.mono (by decide)) (pa_c (pe_op op_fdivX (pvC 1) (pe_int)) (pa_c (pvL 3) (pa_c (pe_op op_addX (pe_int) (pe_op op_modX (pe_op op_fdivX (pvC 1) (pe_int)) (pe_int))) (pa_nil))))) (pa_c (pe_op op_modX (pe_op op_fdivX (pvC 1) (pe_int)) (pvL 3)) (pa_nil))))))))))), ?_⟩
    have big : ∀ {u : Nat}, u ≤ 1000 → u ≤ sizeLine := fun hu => Nat.le_of_lt (small_line (by omega))
    refine seq_go fun nn hN => ?_
    and_intros
    refine ⟨a, ns, 0, rfl, hS, by decide, ?_⟩
    generalize ns.getD (0 : Int).toNat 0 = c0
    refine ⟨c0, rfl, ?_⟩
    have y0 := mixP_nn c0
    generalize mixP c0 = y at y0
    rw [hN]
    clear hN nn
    refine seq_go fun nn hN => ?_
    and_intros
    rw [hN]
    clear hN nn
    refine seq_go fun nn hN => ?_
    and_intros
    obtain ⟨m, hm, hb⟩ : ∃ m : Nat, (m = 3 ∨ m = 5 ∨ m = 7 ∨ m = 9) ∧ atI [V.int 3, V.int 3, V.int 5, V.int 7] (y % 4) = some (V.int m) := by
      have hy : y % 4 = 0 ∨ y % 4 = 1 ∨ y % 4 = 2 ∨ y % 4 = 3 := by omega
      rcases hy with e | e | e | e <;> rw [e]
      · exact ⟨3, .inl rfl, rfl⟩
      · exact ⟨3, .inl rfl, rfl⟩
      · exact ⟨5, .inr (.inl rfl), rfl⟩
      · exact ⟨7, .inr (.inr (.inl rfl)), rfl⟩
    refine ⟨big (by decide), fun p1 H1 hp1 s1 h1 => ⟨by decide, _, _, .l h1, hb, ?_⟩⟩
    rw [hN]
    clear hN nn hb
    refine seq_go fun nn hN => ?_
    and_intros
    obtain ⟨st, hst, hb⟩ : ∃ st : Int, (st = 1 ∨ st = 25 ∨ st = 3 ∨ st = 7) ∧ atI [V.int 1, V.int 25, V.int 3, V.int 7] (y / 4 % 4) = some (V.int st) := by
      have hy : y / 4 % 4 = 0 ∨ y / 4 % 4 = 1 ∨ y / 4 % 4 = 2 ∨ y / 4 % 4 = 3 := by omega
      rcases hy with e | e | e | e <;> rw [e]
      · exact ⟨1, .inl rfl, rfl⟩
      · exact ⟨25, .inr (.inl rfl), rfl⟩
      · exact ⟨3, .inr (.inr (.inl rfl)), rfl⟩
      · exact ⟨7, .inr (.inr (.inr rfl)), rfl⟩
    refine ⟨big (by decide), fun p2 H2 hp2 s2 h2 => ⟨⟨by decide, by decide⟩, by decide, _, _, .l h2, hb, ?_⟩⟩
    rw [hN]
    clear hN nn hb
    refine seq_go fun nn hN => ?_
    and_intros
    have m9 : m ≤ 9 := by omega
    have m3 : 3 ≤ m := by omega
    refine ⟨by rfl, by omega, by omega, lc_M V.int inj_int (seq_ofN m) (by rw [Mk.ofN_len]; exact small_line (by omega)) (fun x => .str (tx [97 + ((y / 16 + st * x) % 26).toNat])) ?_ ?_⟩
    · intro x hx G t R hR
      obtain ⟨x0, x1⟩ := Mk.mem_ofN.mp hx
      have f0 := Int.emod_nonneg (y / 16 + st * x) (show (26 : Int) ≠ 0 by decide)
      have f1 := Int.emod_lt_of_pos (y / 16 + st * x) (show (0 : Int) < 26 by decide)
      and_intros
      refine ⟨⟨by decide, by decide⟩, ⟨Nat.lt_of_le_of_lt (show st.natAbs ≤ 1000 by omega) (by decide), Nat.lt_of_le_of_lt (show x.natAbs ≤ 1000 by omega) (by decide)⟩, by decide, big (by decide), 97 + ((y / 16 + st * x) % 26).toNat, atI_of f0 (abc26 _ (by omega)), hR G (Same.refl _)⟩
    intro D H3 hD s3 h3
    have el : H3 D = some (.lst ((lets (y / 16) st m).map fun c => V.str (tx [c]))) := by
      rw [h3]
      unfold lets Mk.ofN
      rw [List.map_map, List.map_map]; rfl
    and_intros
    refine ⟨(lets (y / 16) st m).map fun c => tx [c], js_seq el, js_len (by unfold lets; rw [List.length_map, List.length_range]; omega), ?_⟩
    rw [js_join]
    rw [hN]
    clear hN nn
    have ll : (lets (y / 16) st m).length = m := by unfold lets; rw [List.length_map, List.length_range]
    have lnd := lets_nd (b := y / 16) m9 hst
    have labc := lets_abc (b := y / 16) (st := st) (m := m)
    generalize lets (y / 16) st m = al at ll lnd labc
    and_intros
    have w0 : 0 ≤ y / 64 % 2 ∧ y / 64 % 2 < 2 := by omega
    refine ⟨⟨by decide, by decide⟩, ⟨by decide, by decide⟩, by decide, y / 1000, m, _, rfl, by omega, by omega, by omega, by omega, fun q H4 hq s4 h4 => ?_⟩
    refine ⟨⟨by decide, by decide⟩, by omega, big (by decide), fun p H5 hp s5 h5 => ?_⟩
    have wl := Mk.wts_len (y / 1000) (m : Int) (3 + y / 64 % 2).toNat
    have wm := Mk.wts_mem (m := (m : Int)) (by omega) (y / 1000) (3 + y / 64 % 2).toNat
    have wsf := Mk.wts_safe (m := (m : Int)) (by omega) (by omega) (by omega) (y / 1000) (3 + y / 64 % 2).toNat
    refine k p q al _ _ H5 (s1.trans (s2.trans (s3.trans (s4.trans s5)))) ⟨h5, s5 _ _ h4⟩ ⟨by omega, by omega, lnd, labc, by omega, by omega, ?_, ?_, ?_⟩ (by omega) (by omega) (by omega)
    · rw [ll]; exact wm
    · rw [ll]; exact wsf
    · rw [ll]
      exact ⟨Int.emod_nonneg _ (by omega), Int.emod_lt_of_pos _ (by omega)⟩
theorem belows_of {b : Int} : ∀ {xs : List V}, xs.all (isBelowV b) = true → ∃ ws : List Int, xs = ws.map V.int ∧ ∀ x ∈ ws, 0 ≤ x ∧ x < b
  | [], _ => ⟨[], rfl, fun _ h => nomatch h⟩
  | y :: ys, h => by
    rw [List.all_cons, Bool.and_eq_true] at h
    obtain ⟨ws, e, hw⟩ := belows_of h.2
    cases y with
    | int i =>
      have h1 : (decide (0 ≤ i) && decide (i < b)) = true := h.1
      rw [Bool.and_eq_true, decide_eq_true_eq, decide_eq_true_eq] at h1
      refine ⟨i :: ws, by rw [e]; rfl, fun x hx => ?_⟩
      cases hx with
      | head => exact h1
      | tail _ hx => exact hw x hx
    | _ => cases h.1
theorem areW_of {H : Hp} {b : Int} {x : V} (h : areWeightsV H b x = true) : ∃ (p : Addr) (ws : List Int), x = .ref p ∧ H p = some (.lst (ws.map V.int)) ∧ 3 ≤ ws.length ∧ ws.length ≤ 8 ∧ ∀ y ∈ ws, 0 ≤ y ∧ y < b := by
  cases x with
  | ref p =>
    have h1 : (match H p with | some (.lst xs) => decide (3 ≤ xs.length) && decide (xs.length ≤ 8) && xs.all (isBelowV b) | _ => false) = true := h
    split at h1
    · rename_i xs e
      simp only [Bool.and_eq_true, decide_eq_true_eq] at h1
      obtain ⟨ws, e1, hw⟩ := belows_of h1.2
      subst e1
      rw [List.length_map] at h1
      exact ⟨p, ws, rfl, e, h1.1.1, h1.1.2, hw⟩
    · cases h1
  | _ => cases h
def sp_Code_init (Ad : Ads) : Sp := fun vs H Q E => ∃ (a dx : Addr) (xa xw xr : V) (ta tw tr : Tg), vs = [.ref a, xa, xw, xr] ∧ H a = some (.ins Ad.Code dx []) ∧ tagV H xa = some ta ∧ tagV H xw = some tw ∧ tagV H xr = some tr ∧
  (∀ z, xa = .str z → z.length ≤ 4000) ∧ (∀ p o u, xw = .ref p → H p ≠ some (.frz o u)) ∧ (∀ p xs, xw = .ref p → H p = some (.lst xs) → xs.length ≤ 1000 ∧ ∀ y ∈ xs, ∃ t, tagV H y = some t) ∧
  (codeBad H xa xw xr → ∀ H', Same H H' → E (.ref Ad.NoCode) none H') ∧
  (∀ al p ws r, codeMade H xa xw xr al p ws r → ∀ q H', H q = none → (∀ b o, b ≠ a → H b = some o → H' b = some o) → H' a = some (.ins Ad.Code dx (codeF al q r)) → H' q = some (.lst (ws.map V.int)) → Q .non H')
theorem init_made {Ad : Ads} {H : Hp} {ca cd qn : Addr} {al : List Nat} {ws : List Int} {r : Int} {Q : VK} {E : XK} (ha : H ca = some (.ins Ad.Code cd [])) (hq : H qn = some (.lst (ws.map V.int))) (ok : CodeOk al ws r)
    (k : ∀ H', (∀ b o, b ≠ ca → H b = some o → H' b = some o) → CodeAt Ad H' ca al ws r → Q .non H') : sp_Code_init Ad [.ref ca, .str (tx al), .ref qn, .int r] H Q E := by
  have g26 := ok.a26
  have w8 := ok.w8
  refine ⟨ca, cd, .str (tx al), .ref qn, .int r, Tg.str, Tg.lst, Tg.int, rfl, ha, rfl, ?_, rfl, ?_, ?_, ?_, ?_, ?_⟩
  · show tagO (H qn) = _
    rw [hq]; rfl
  · intro z e
    cases e
    rw [tx_len]; omega
  · intro p o u e e2
    cases e
    rw [hq] at e2; cases e2
  · intro p xs e e2
    cases e
    rw [hq] at e2
    cases e2
    refine ⟨by rw [List.length_map]; omega, fun y hy => ?_⟩
    obtain ⟨x, _, rfl⟩ := List.mem_map.mp hy
    exact ⟨Tg.int, rfl⟩
  · intro hb
    exact absurd ⟨rfl, rfl, hq, rfl, ok⟩ (hb al qn ws r)
  · intro al' p ws' r' hm q H' hq' hs h1 h2
    obtain ⟨e1, e2, e3, e4, _⟩ := hm
    have ea : al = al' := by injection e1 with e1; exact tx_inj e1
    have er : r = r' := by injection e4
    have ep : qn = p := by injection e2
    subst ea er ep
    rw [hq] at e3
    have e6 : ws.map V.int = ws'.map V.int := by injection e3 with e3; injection e3
    have ew : ws = ws' := (List.map_inj_right (fun x y h => by injection h)).mp e6
    subst ew
    exact k H' hs ⟨cd, q, h1, h2⟩
theorem sc_Code_init : FnScope ["self", "alphabet", "weights", "rest", "m"] ["self", "alphabet", "weights", "rest"] (defScope s_Code_init) := ⟨rfl, rfl, rfl, by decide +kernel, rfl, by decide +kernel, by decide +kernel⟩
theorem ok_Code_init {f : Addr} {fd : FuncData} (F : Fun K "__init__" "Code.__init__" s_Code_init f fd) (T : Bl mg) (AF : AdF K mg Ad) (C_are_safe : Fnc P w K mg base (CX1 P w) 2 "are_safe" ["weights", "m"] sp_are_safe) (C_is_below : Fnc P w K mg base (CX1 P w) 2 "is_below" ["thing", "bound"] sp_is_below) (C_are_weights : Fnc P w K mg base (CX1 P w) 3 "are_weights" ["thing", "m"] sp_are_weights) (C_is_alphabet : Fnc P w K mg base (CX1 P w) 1 "is_alphabet" ["thing"] sp_is_alphabet) : FnOk P w K mg base (CX1 P w) 4 f fd ["self", "alphabet", "weights", "rest"] (sp_Code_init Ad) := by
  refine F.okX (k := 3) sc_Code_init (fun vs H Q E h => ?_) (fun cdv A outer s H vs Q E hr h => ?_)
  · obtain ⟨a, dx, xa, xw, xr, ta, tw, tr, rfl, _⟩ := h
    rfl
  · obtain ⟨a, dx, xa, xw, xr, ta, tw, tr, rfl, ha, hta, htw, htr, hza, hfz, hit, kE, kQ⟩ := h
    have hu := hr.units0
    have hu1 := hu_of hr
    refine ⟨_, pss_cons (ps_if (pt_not (pt_val (pe_callG C_is_alphabet pass_def (hr.mono (by decide)) (pa_c (pvL 1) (pa_nil))))) (pss_one (ps_raise PySem.F.excBase_ValueError AF.q_NoCode AF.g_NoCode raise_def rfl (pa_c (pe_str) (pa_nil)))) (pss_nil)) (pss_cons (ps_setL (i := 4) sc_Code_init.nd (pe_callBG (call_lenK (K := K) rfl) T.len bt_len (pa_c (pvL 1) (pa_nil)))) (pss_cons (ps_if (pt_not (pt_val (pe_callG C_are_weights pass_def (hr.mono (by decide)) (pa_c (pvL 2) (pa_c (pvL 4) (pa_nil)))))) (pss_one (ps_raise PySem.F.excBase_ValueError AF.q_NoCode AF.g_NoCode raise_def rfl (pa_c (pe_str) (pa_nil)))) (pss_nil)) (pss_cons (ps_if (pt_not (pt_val (pe_callG C_is_below pass_def (hr.mono (by decide)) (pa_c (pvL 3) (pa_c (pvL 4) (pa_nil)))))) (pss_one (ps_raise PySem.F.excBase_ValueError AF.q_NoCode AF.g_NoCode raise_def rfl (pa_c (pe_str) (pa_nil)))) (pss_nil)) (pss_cons (ps_if (pt_not (pt_val (pe_callG C_are_safe pass_def (hr.mono (by decide)) (pa_c (pvL 2) (pa_c (pvL 4) (pa_nil)))))) (pss_one (ps_raise PySem.F.excBase_ValueError AF.q_NoCode AF.g_NoCode raise_def rfl (pa_c (pe_str) (pa_nil)))) (pss_nil)) (pss_cons (ps_fldX (K := K) rfl (pvL 0) (pvL 1)) (pss_cons (ps_fldX (K := K) rfl (pvL 0) (pe_callTyG (call_listK (K := K) rfl rfl) T.list bt_list (pa_c (pvL 2) (pa_nil)))) (pss_one (ps_fldX (K := K) rfl (pvL 0) (pvL 3))))))))), ?_⟩
    rw [ap_seq]
    and_intros
    refine ⟨xa, ta, rfl, hta, hza, fun H1 s1 => ?_⟩
    and_intros
    cases hA : isAlphaV xa with
    | false =>
      bv_omega
      refine ⟨by decide, kE (fun al p ws r ⟨e1, _, _, _, e5⟩ => ?_) H1 s1⟩
      have : isAlphaV xa = true := by
        rw [e1]
        show isAlphaL (tx al).cps.toList = true
        rw [tx_cps]
        unfold isAlphaL
        rw [decide_eq_true e5.a3, decide_eq_true e5.a26, decide_eq_true e5.nd, List.all_eq_true.mpr fun c hc => decide_eq_true (e5.abc c hc)]; rfl
      rw [hA] at this; cases this
    | true =>
      bv_omega
      obtain ⟨z, rfl⟩ : ∃ z, xa = .str z := by
        cases xa with
        | str z => exact ⟨z, rfl⟩
        | _ => cases hA
      have hA' : isAlphaL z.cps.toList = true := hA
      have hz := len_cps z
      unfold isAlphaL at hA'
      simp only [Bool.and_eq_true, decide_eq_true_eq, List.all_eq_true] at hA'
      obtain ⟨⟨⟨g3, g26⟩, gnd⟩, gabc⟩ := hA'
      rw [ap_seq]
      and_intros
      refine ⟨Nat.le_of_lt (small_line (by omega)), ?_⟩
      and_intros
      rw [ap_seq]
      and_intros
      refine ⟨xw, tw, _, rfl, tag_same s1 htw, fun p o u e e2 => ?_, fun p xs e e2 => ?_, fun H2 s2 => ?_⟩
      · subst e
        have : tagO (H p) = some tw := htw
        cases e3 : H p with
        | none => rw [e3] at this; cases this
        | some ob =>
          have e4 := s1 p ob e3
          rw [e2] at e4
          cases e4
          exact hfz p o u rfl e3
      · subst e
        have : tagO (H p) = some tw := htw
        cases e3 : H p with
        | none => rw [e3] at this; cases this
        | some ob =>
          have e4 := s1 p ob e3
          rw [e2] at e4
          cases e4
          obtain ⟨i1, i2⟩ := hit p xs rfl e3
          exact ⟨i1, fun y hy => by obtain ⟨ty, hty⟩ := i2 y hy; exact ⟨ty, tag_same s1 hty⟩⟩
      and_intros
      have eW : areWeightsV H1 (z.length : Int) xw = areWeightsV H (z.length : Int) xw := by
        cases xw with
        | ref p =>
          have : tagO (H p) = some tw := htw
          cases e3 : H p with
          | none => rw [e3] at this; cases this
          | some ob =>
            show (match H1 p with | some (.lst xs) => _ | _ => false) = (match H p with | some (.lst xs) => _ | _ => false)
            rw [s1 p ob e3, e3]
        | _ => rfl
      rw [eW]
      cases hW : areWeightsV H (z.length : Int) xw with
      | false =>
        bv_omega
        refine ⟨by decide, kE (fun al p ws r ⟨e1, e2, e3, _, e5⟩ => ?_) H2 (s1.trans s2)⟩
        have hal : z = tx al := by cases e1; rfl
        have : areWeightsV H (z.length : Int) xw = true := by
          rw [e2, hal, tx_len]
          show (match H p with | some (.lst xs) => decide (3 ≤ xs.length) && decide (xs.length ≤ 8) && xs.all (isBelowV (al.length : Int)) | _ => false) = true
          rw [e3]
          simp only [List.length_map]
          rw [decide_eq_true e5.w3, decide_eq_true e5.w8, List.all_map, List.all_eq_true.mpr]; rfl
          intro x hx
          have := e5.wm x hx
          show (decide (0 ≤ x) && decide (x < (al.length : Int))) = true
          rw [decide_eq_true this.1, decide_eq_true this.2]; rfl
        rw [hW] at this; cases this
      | true =>
        bv_omega
        rw [ap_seq]
        and_intros
        refine ⟨xr, tr, _, rfl, tag_same (s1.trans s2) htr, ?_⟩
        and_intros
        cases hB : isBelowV (z.length : Int) xr with
        | false =>
          bv_omega
          refine ⟨by decide, kE (fun al p ws r ⟨e1, e2, e3, e4, e5⟩ => ?_) H2 (s1.trans s2)⟩
          have hal : z = tx al := by cases e1; rfl
          have : isBelowV (z.length : Int) xr = true := by
            rw [e4, hal, tx_len]
            show (decide (0 ≤ r) && decide (r < (al.length : Int))) = true
            rw [decide_eq_true e5.rm.1, decide_eq_true e5.rm.2]; rfl
          rw [hB] at this; cases this
        | true =>
          bv_omega
          obtain ⟨r, rfl⟩ : ∃ r, xr = .int r := by
            cases xr with
            | int r => exact ⟨r, rfl⟩
            | _ => cases hB
          have hB' : (decide (0 ≤ r) && decide (r < (z.length : Int))) = true := hB
          rw [Bool.and_eq_true, decide_eq_true_eq, decide_eq_true_eq] at hB'
          obtain ⟨p, ws, rfl, hp, w3, w8, wm⟩ := areW_of hW
          have hp2 : H2 p = some (.lst (ws.map V.int)) := s2 _ _ (s1 _ _ hp)
          rw [ap_seq]
          and_intros
          refine ⟨p, ws, _, rfl, hp2, by omega, fun H3 s3 => ?_⟩
          and_intros
          have s03 : Same H H3 := (s1.trans s2).trans s3
          have el : (z.length : Int) = (z.cps.toList.length : Int) := by rw [hz]
          cases hS : Mk.safe (z.length : Int) ws with
          | false =>
            bv_omega
            refine ⟨by decide, kE (fun al p' ws' r' ⟨e1, e2, e3, e4, e5⟩ => ?_) H3 s03⟩
            have hal : z = tx al := by cases e1; rfl
            have hpp : p' = p := by cases e2; rfl
            subst hpp
            have hww : ws' = ws := by
              rw [hp] at e3
              have e6 : ws.map V.int = ws'.map V.int := by injection e3 with e3; injection e3
              exact (List.map_inj_right (fun x y h => by injection h)).mp e6.symm
            subst hww
            have := e5.safe
            rw [hal, tx_len] at hS
            rw [hS] at this; cases this
          | true =>
            bv_omega
            have ha3 := s03 _ _ ha
            have hp3 : H3 p = some (.lst (ws.map V.int)) := s03 _ _ hp
            have hne : p ≠ a := fun e => by rw [e, ha] at hp; cases hp
            have hM : codeMade H (.str z) (.ref p) (.int r) z.cps.toList p ws r := ⟨by rw [tx_of], rfl, hp, rfl, ⟨g3, g26, gnd, gabc, w3, w8, by rw [← el]; exact wm, by rw [← el]; exact hS, by rw [← el]; exact hB'⟩⟩
            ac_nf
            refine ⟨_, _, _, ha3, AF.c_Code, AF.n_Code_letters, by decide, ws.map V.int, .inl (.inl (.of (by rw [upd_ne hne]; exact hp3))), fun q H4 hq s4 h4 => ?_⟩
            have ha4 := s4 a _ upd_same
            refine ⟨_, _, _, ha4, AF.c_Code, AF.n_Code_factors, Nat.lt_of_le_of_lt (Nat.le_refl 1) (by decide), _, _, _, upd_same, AF.c_Code, AF.n_Code_remainder, Nat.lt_of_le_of_lt (Nat.le_refl 2) (by decide), ?_⟩
            have hqa : q ≠ a := fun e => by rw [e, upd_same] at hq; cases hq
            rw [upd_ne hqa] at hq
            have hq0 : H q = none := by
              cases e : H q with
              | none => rfl
              | some o => rw [s03 q o e] at hq; cases hq
            refine kQ z.cps.toList p ws r hM q _ hq0 (fun b o hb e => ?_) ?_ ?_
            · rw [upd_ne hb, upd_ne hb]
              exact s4 b o (by rw [upd_ne hb]; exact s03 b o e)
            · rw [upd_same]
              unfold codeF
              rw [tx_of]
              rfl
            · rw [upd_ne hqa, upd_ne hqa]; exact h4
theorem below_intQ {b k : Int} (h0 : 0 ≤ k) (h1 : k < b) : isBelowV b (.int k) = true := by
  show (decide (0 ≤ k) && decide (k < b)) = true
  rw [decide_eq_true h0, decide_eq_true h1]; rfl
def sp_Book_choose (Ad : Ads) (spf : Sp) : Sp := fun vs H Q E => ∃ (b ca dn de f t : Addr) (es : List Ben) (al : List Nat) (ws : List Int) (r n : Int) (key : List Key) (y : V) (bar : Int → Bool), vs = [.ref b, .ref t, y, .ref f] ∧ BookAt Ad H b ca dn de es ∧ CodeAt Ad H ca al ws r ∧ CodeOk al ws r ∧ Bar spf bar H ∧ H t = some (.tup (key.map kV)) ∧ EnOk key ∧ es.length < 300 ∧
  ((key ∈ es.map (·.key) ∧ (∀ H', Same H H' → E (.ref Ad.Twice) none H')) ∨
   (key ∉ es.map (·.key) ∧ y = .int n ∧ 0 ≤ n ∧ n < ManyI al ws ∧ n ∉ es.map (·.num) ∧ bar n = false ∧ ∀ H', Same H H' → Q (.int n) H') ∨
   (key ∉ es.map (·.key) ∧ y = .int n ∧ 0 ≤ n ∧ n < ManyI al ws ∧ (n ∈ es.map (·.num) ∨ bar n = true) ∧ ∀ H', Same H H' → E (.ref Ad.NoNumber) none H') ∨
   (key ∉ es.map (·.key) ∧ y = .non ∧ LeastB (es.map (·.num)) bar n ∧ n < ManyI al ws ∧ ∀ H', Same H H' → Q (.int n) H') ∨
   (key ∉ es.map (·.key) ∧ y = .non ∧ LeastB (es.map (·.num)) bar n ∧ ManyI al ws ≤ n ∧ ∀ H', Same H H' → E (.ref Ad.TooMany) none H'))
theorem sc_Book_choose : FnScope ["self", "entry", "number", "is_barred"] ["self", "entry", "number", "is_barred"] (defScope s_Book_choose) := ⟨rfl, rfl, rfl, by decide +kernel, rfl, by decide +kernel, by decide +kernel⟩
theorem ok_Book_choose {f : Addr} {fd : FuncData} {k : Nat} (F : Fun K "choose" "Book.choose" s_Book_choose f fd) (T : Bl mg) (AF : AdF K mg Ad) (C_is_below : Fnc P w K mg base (CX1 P w) 2 "is_below" ["thing", "bound"] sp_is_below) (C_is_entry : Fnc P w K mg base (CX1 P w) 3 "is_entry" ["thing"] sp_is_entry) (M_Book_least_free : MtdHO P w K mg base (CX1 P w) Ad.Book "least_free" 2 1 ["self", "is_barred"] (sp_Book_least_free Ad)) (M_Code_many : Mtd P w K mg base (CX1 P w) Ad.Code "many" 1 ["self"] (sp_Code_many Ad)) : FnOkS P w K mg base (CX1 P w) (k + 4) f fd ["self", "entry", "number", "is_barred"] (spHO P w K mg base k 1 (sp_Book_choose Ad)) := by
  refine F.okH (j := k + 3) (k := k) (n := 1) sc_Book_choose (fun spf vs H Q E h => ?_) (fun cdv A outer s H vs Q E hr lf spf hlf lam step h => ?_)
  · obtain ⟨b, ca, dn, de, f, t, es, al, ws, r, n, key, y, bar, rfl, _⟩ := h
    rfl
  · obtain ⟨b, ca, dn, de, f, t, es, al, ws, r, n, key, y, bar, rfl, B, C, ok, Fb, ht, eo, h300, ks⟩ := h
    obtain rfl : f = lf := by cases hlf; rfl
    obtain ⟨dx, h1⟩ := B.bk
    have hu := hr.units0
    have hu1 := hu_of hr
    refine ⟨_, pss_cons (ps_if (pt_not (pt_val (pe_callG C_is_entry pass_def (hr.mono (by omega)) (pa_c (pvL 1) (pa_nil))))) (pss_one (ps_raise PySem.F.excBase_ValueError AF.q_NoEntry AF.g_NoEntry raise_def rfl (pa_c (pe_str) (pa_nil)))) (pss_nil)) (pss_cons (ps_if (pt_cmpR (op_inK (K := K) rfl hu1) (pvL 1) (pe_fldX (K := K) rfl (pvL 0)) (by kernel_rfl)) (pss_one (ps_raise PySem.F.excBase_ValueError AF.q_Twice AF.g_Twice raise_def rfl (pa_c (pe_str) (pa_nil)))) (pss_nil)) (pss_cons (ps_if (pt_cmpR op_isnotX (pvL 2) (pe_non) (nomark _)) (pss_cons (ps_if (pt_not (pt_val (pe_callG C_is_below pass_def (hr.mono (by omega)) (pa_c (pvL 2) (pa_c (pe_methX0 M_Code_many pass_def (hr.mono (by omega)) (pe_fldX (K := K) rfl (pvL 0))) (pa_nil)))))) (pss_one (ps_raise PySem.F.excBase_ValueError AF.q_NoNumber AF.g_NoNumber raise_def rfl (pa_c (pe_str) (pa_nil)))) (pss_nil)) (pss_one (ps_if ((pw_or (pt_cmpR (op_inK (K := K) rfl hu1) (pvL 2) (pe_fldX (K := K) rfl (pvL 0)) (by kernel_rfl)) (pw_or1 (pt_val (pe_callStep step rfl (hr.mono (by omega)) (pvL 3) (pa_c (pvL 2) (pa_nil)))))).pt) (pss_one (ps_raise PySem.F.excBase_ValueError AF.q_NoNumber AF.g_NoNumber raise_def rfl (pa_c (pe_str) (pa_nil)))) (pss_nil)))) (pss_nil)) (pss_cons (ps_if (pt_cmpR (op_geL (K := K) rfl hu) (pe_callBG call_lenD T.len bt_len (pa_c (pe_fldX (K := K) rfl (pvL 0)) (pa_nil))) (pe_globE AF.v_MOST_ENTRIES) (nomark _)) (pss_one (ps_raise PySem.F.excBase_ValueError AF.q_TooMany AF.g_TooMany raise_def rfl (pa_c (pe_str) (pa_nil)))) (pss_nil)) (pss_one (ps_ret (pe_ifExp (pt_cmpR op_isX (pvL 2) (pe_non) (nomark _)) (pe_methHV M_Book_least_free step rfl rfl pass_def (hr.mono (by omega)) (pvL 0) (pvL 3)) (pvL 2))))))), ?_⟩
    refine seq_go fun nn hN => ?_
    and_intros
    refine ⟨_, .tup, rfl, (show tagO (H t) = _ by rw [ht]; rfl), (fun p xs ep hp => ?_), fun G1 t1 => ?_⟩
    · cases ep
      rw [ht] at hp
      cases hp
      refine ⟨by rw [List.length_map]; have := eo.few; omega, fun v hv => ?_⟩
      obtain ⟨z, hz, rfl⟩ := List.mem_map.mp hv
      exact ⟨kV_tag H z, fun s es => eo.short s (by rw [← es]; exact hv)⟩
    rw [entV_of ht eo]
    and_intros
    rw [hN]
    clear hN nn
    have B1 := B.same t1
    obtain ⟨dx1, h11⟩ := B1.bk
    refine seq_go fun nn hN => ?_
    and_intros
    refine ⟨_, dx1, _, _, h11, AF.c_Book, AF.n_Book_by_entry, bookF_ent ca dn de, ?_⟩
    refine .inr ⟨_, .inr ⟨_, key, t, .inl B1.he, rfl, t1 _ _ ht, rfl⟩, ?_⟩
    by_cases hk : key ∈ es.map (·.key)
    · obtain ⟨e, he, rfl⟩ := List.mem_map.mp hk
      rw [show valV (entD es) e.key = some (V.int e.num) from val_map (f := fun e : Ben => e.key) B.nk he]
      bv_omega
      rcases ks with ⟨_, k⟩ | ⟨h, _⟩ | ⟨h, _⟩ | ⟨h, _⟩ | ⟨h, _⟩
      · exact ⟨Nat.le_of_lt (small_line (by decide)), k G1 t1⟩
      all_goals exact absurd hk h
    rw [ent_no hk]
    bv_omega
    show nn _ _ _
    rw [hN]
    clear hN nn
    refine cut_seq (fun σ G => σ = [some (V.ref b), some (V.ref t), some y, some (V.ref f)] ∧ Same H G ∧ ((y = .int n ∧ ∀ H', Same H H' → Q (.int n) H') ∨ (y = .non ∧ LeastB (es.map (·.num)) bar n ∧ ((n < ManyI al ws ∧ ∀ H', Same H H' → Q (.int n) H') ∨ (ManyI al ws ≤ n ∧ ∀ H', Same H H' → E (.ref Ad.TooMany) none H'))))) ?_ ?_
    · rintro σ G2 ⟨rfl, t2, hz⟩
      have B2 := B.same t2
      obtain ⟨dx2, h12⟩ := B2.bk
      refine seq_go fun nn hN => ?_
      and_intros
      refine ⟨_, dx2, _, _, h12, AF.c_Book, AF.n_Book_by_number, bookF_num ca dn de, ?_⟩
      and_intros
      refine ⟨_, .inl B2.hn, ?_⟩
      and_intros
      rw [numD_len, decide_eq_false (show ¬ (300 : Int) ≤ (es.length : Int) by omega)]
      bv_omega
      show nn _ _ _
      rw [hN]
      clear hN nn
      rcases hz with ⟨rfl, k⟩ | ⟨rfl, Lf, k⟩
      · and_intros
        exact k G2 t2
      · and_intros
        refine ⟨dx2, _, h12, bookF_none (by decide) (by decide) (by decide) ca dn de, trivial, lam.same t2, b, ca, dn, de, f, es, al, ws, r, n, bar, rfl, B2, C.same t2, ok, Fb.same t2, Lf, k.imp (fun ⟨u, k⟩ => ⟨u, fun G3 t3 => k G3 (t2.trans t3)⟩) fun ⟨u, k⟩ => ⟨u, fun G3 t3 => k G3 (t2.trans t3)⟩⟩
    · intro U hU
      have em : (al.length : Int) ^ (ws.length - 1) = ManyI al ws := rfl
      rcases ks with ⟨h, _⟩ | ks
      · exact absurd h hk
      by_cases hy : y = .int n
      · subst hy
        obtain ⟨n0, n1, kk⟩ : 0 ≤ n ∧ n < ManyI al ws ∧ ((n ∉ es.map (·.num) ∧ bar n = false ∧ ∀ H', Same H H' → Q (.int n) H') ∨ ((n ∈ es.map (·.num) ∨ bar n = true) ∧ ∀ H', Same H H' → E (.ref Ad.NoNumber) none H')) := by
          rcases ks with ⟨_, _, a, b, c, d, e⟩ | ⟨_, _, a, b, c, d⟩ | ⟨_, e, _⟩ | ⟨_, e, _⟩
          · exact ⟨a, b, .inl ⟨c, d, e⟩⟩
          · exact ⟨a, b, .inr ⟨c, d⟩⟩
          · cases e
          · cases e
        have C1 := C.same t1
        obtain ⟨dc, qc, hc1, hc2⟩ := id C1
        and_intros
        refine seq_go fun n2 hM => ?_
        and_intros
        refine ⟨_, dx1, _, _, h11, AF.c_Book, AF.n_Book_basis, bookF_basis ca dn de, ?_⟩
        refine ⟨dc, _, hc1, codeF_none (by decide) (by decide) (by decide) al qc r, ca, al, ws, r, rfl, C1, ok.a26, by have := ok.w3; omega, ok.w8, fun G2 t2 => ?_⟩
        refine ⟨_, .int, _, rfl, rfl, ?_⟩
        rw [below_intQ (b := (al.length : Int) ^ (ws.length - 1)) n0 n1]
        and_intros
        rw [hM]
        clear hM n2
        have t02 := t1.trans t2
        have B2 := B.same t02
        obtain ⟨dx2, h12⟩ := B2.bk
        and_intros
        refine ⟨_, dx2, _, _, h12, AF.c_Book, AF.n_Book_by_number, bookF_num ca dn de, ?_⟩
        refine .inr ⟨_, .inl ⟨_, .inl n, .inl B2.hn, rfl, rfl⟩, ?_⟩
        rw [num_is B.nn]
        by_cases hm : n ∈ es.map (·.num)
        · rw [decide_eq_true hm, if_pos rfl]
          rcases kk with ⟨a, _⟩ | ⟨_, k⟩
          · exact absurd hm a
          · exact ⟨Nat.le_of_lt (small_line (by decide)), k G2 t02⟩
        · rw [decide_eq_false hm, if_neg (by decide)]
          refine ⟨trivial, lam.same t02, lam.same t02, trivial, Fb.same t02 n G2 _ (Same.refl _) fun G3 t3 => ⟨_, rfl, ?_⟩⟩
          rcases kk with ⟨_, b, k⟩ | ⟨a, k⟩
          · rw [b, if_neg (by decide)]
            exact hU _ _ ⟨rfl, t02.trans t3, .inl ⟨rfl, k⟩⟩
          · rw [a.resolve_left hm, if_pos rfl]
            exact ⟨Nat.le_of_lt (small_line (by decide)), k G3 (t02.trans t3)⟩
      · obtain ⟨rfl, Lf, kk⟩ : y = .non ∧ LeastB (es.map (·.num)) bar n ∧ ((n < ManyI al ws ∧ ∀ H', Same H H' → Q (.int n) H') ∨ (ManyI al ws ≤ n ∧ ∀ H', Same H H' → E (.ref Ad.TooMany) none H')) := by
          rcases ks with ⟨_, e, _⟩ | ⟨_, e, _⟩ | ⟨_, a, b, c, d⟩ | ⟨_, a, b, c, d⟩
          · exact absurd e hy
          · exact absurd e hy
          · exact ⟨a, b, .inl ⟨c, d⟩⟩
          · exact ⟨a, b, .inr ⟨c, d⟩⟩
        and_intros
        exact hU _ _ ⟨rfl, t1, .inr ⟨rfl, Lf, kk⟩⟩
theorem ent_keys {xs : List V} (h : isEntL xs = true) : ∃ key : List Key, xs = key.map kV := by
  cases xs with
  | nil => cases h
  | cons a r =>
    cases a with
    | str z =>
      cases r with
      | nil => exact ⟨[.inr z], rfl⟩
      | cons y r2 =>
        cases r2 with
        | cons _ _ => cases h
        | nil =>
          have h' : (if z = ("phrase" : Str) then areWdsV 6 y else if z = ("part" : Str) then areLetV 6 y else false) = true := h
          cases y with
          | str y => exact ⟨[.inr z, .inr y], rfl⟩
          | _ =>
            exfalso
            split at h'
            · cases h'
            · split at h'
              · cases h'
              · cases h'
    | _ => cases h
def sp_Book_number (Ad : Ads) : Sp := fun vs H Q _ => ∃ (b ca dn de : Addr) (es : List Ben) (x : V) (t : Tg), vs = [.ref b, x] ∧ BookAt Ad H b ca dn de es ∧ tagV H x = some t ∧ (∀ p xs, x = .ref p → H p = some (.tup xs) → xs.length ≤ 1000 ∧ ∀ y ∈ xs, (∃ t, tagV H y = some t) ∧ ∀ z, y = .str z → z.length ≤ 10000) ∧
  (isEntV H x = false → ∀ H', Same H H' → Q .non H') ∧
  (∀ p key, x = .ref p → H p = some (.tup (key.map kV)) → isEntL (key.map kV) = true → (∀ e ∈ es, e.key = key → ∀ H', Same H H' → Q (.int e.num) H') ∧ (key ∉ es.map (·.key) → ∀ H', Same H H' → Q .non H'))
theorem sc_Book_number : FnScope ["self", "entry"] ["self", "entry"] (defScope s_Book_number) := ⟨rfl, rfl, rfl, by decide +kernel, rfl, by decide +kernel, by decide +kernel⟩
theorem ok_Book_number {f : Addr} {fd : FuncData} (F : Fun K "number" "Book.number" s_Book_number f fd) (T : Bl mg) (AF : AdF K mg Ad) (C_is_entry : Fnc P w K mg base (CX1 P w) 3 "is_entry" ["thing"] sp_is_entry) : FnOk P w K mg base (CX1 P w) 4 f fd ["self", "entry"] (sp_Book_number Ad) := by
  refine F.okX (k := 3) sc_Book_number (fun vs H Q E h => ?_) (fun cdv A outer s H vs Q E hr h => ?_)
  · obtain ⟨b, ca, dn, de, es, x, t, rfl, _⟩ := h
    rfl
  · obtain ⟨b, ca, dn, de, es, x, t, rfl, B, ht, hx, k1, k2⟩ := h
    have hu := hr.units0
    have hu1 := hu_of hr
    refine ⟨_, pss_cons (ps_if (pt_not (pt_val (pe_callG C_is_entry pass_def (hr.mono (by decide)) (pa_c (pvL 1) (pa_nil))))) (pss_one (ps_ret (pe_non))) (pss_nil)) (pss_one (ps_ret (pe_dget1G hu1 (pe_fldX (K := K) rfl (pvL 0)) (pvL 1)))), ?_⟩
    refine seq_go fun nn hN => ?_
    and_intros
    refine ⟨x, t, rfl, ht, hx, fun H1 s1 => ⟨_, rfl, ?_⟩⟩
    cases hv : isEntV H x with
    | false =>
      bv_omega
      exact k1 hv H1 s1
    | true =>
      bv_omega
      show nn _ _ _
      rw [hN]
      clear hN nn
      cases x with
      | ref p =>
        have hv' : (match H p with | some (.tup xs) => isEntL xs | _ => false) = true := hv
        cases hp : H p with
        | none => rw [hp] at hv'; cases hv'
        | some o =>
          rw [hp] at hv'
          cases o with
          | tup xs =>
            obtain ⟨key, rfl⟩ := ent_keys hv'
            obtain ⟨q1, q2⟩ := k2 p key rfl hp hv'
            have B1 := B.same s1
            obtain ⟨dx1, h11⟩ := B1.bk
            and_intros
            refine ⟨_, dx1, _, _, h11, AF.c_Book, AF.n_Book_by_entry, bookF_ent ca dn de, de, rfl, .inr ⟨_, .inl B1.he⟩, _, DGet.t (k := key) B1.he (s1 _ _ hp), ?_⟩
            by_cases hm : key ∈ es.map (·.key)
            · obtain ⟨e, he, ee⟩ := List.mem_map.mp hm
              rw [← ee, ent_val B.nk he]
              exact q1 e he ee H1 s1
            · rw [ent_no hm]
              exact q2 hm H1 s1
          | _ => cases hv'
      | _ => cases hv
def sp_Editions_check_change (Ad : Ads) : Sp := fun vs H Q E => ∃ (ed dx b cl sd : Addr) (l0 d : Int), vs = [.ref ed, .int d] ∧ H ed = some (.ins Ad.Editions dx (edF b cl sd l0)) ∧ 0 ≤ d ∧ d ≤ 1000000000 ∧ ((l0 ≤ d ∧ Q .non H) ∨ (d < l0 ∧ E (.ref Ad.NoDay) none H))
theorem sc_Editions_check_change : FnScope ["self", "day"] ["self", "day"] (defScope s_Editions_check_change) := ⟨rfl, rfl, rfl, by decide +kernel, rfl, by decide +kernel, by decide +kernel⟩
theorem ok_Editions_check_change {f : Addr} {fd : FuncData} (F : Fun K "check_change" "Editions.check_change" s_Editions_check_change f fd) (T : Bl mg) (AF : AdF K mg Ad) (C_is_day : Fnc P w K mg base (CX1 P w) 3 "is_day" ["thing"] sp_is_day) : FnOk P w K mg base (CX1 P w) 4 f fd ["self", "day"] (sp_Editions_check_change Ad) := by
  refine F.okX (k := 3) sc_Editions_check_change (fun vs H Q E h => ?_) (fun cdv A outer s H vs Q E hr h => ?_)
  · obtain ⟨ed, dx, b, cl, sd, l0, d, rfl, _⟩ := h
    rfl
  · obtain ⟨ed, dx, b, cl, sd, l0, d, rfl, h1, d0, d1, k⟩ := h
    have hu := hr.units0
    have hu1 := hu_of hr
    refine ⟨_, pss_one (ps_if ((pw_or (pt_not (pt_val (pe_callG C_is_day pass_def (hr.mono (by decide)) (pa_c (pvL 1) (pa_nil))))) (pw_or1 (pt_cmpR op_ltX (pvL 1) (pe_fldX (K := K) rfl (pvL 0)) (nomark _)))).pt) (pss_one (ps_raise PySem.F.excBase_ValueError AF.q_NoDay AF.g_NoDay raise_def rfl (pa_c (pe_str) (pa_nil)))) (pss_nil)), ?_⟩
    and_intros
    refine ⟨_, .int, rfl, rfl, ?_⟩
    have e : isBelowV 1000000001 (.int d) = true := by
      show (decide (0 ≤ d) && decide (d < 1000000001)) = true
      rw [decide_eq_true d0, decide_eq_true (show d < 1000000001 by omega)]; rfl
    rw [e]
    and_intros
    refine ⟨_, dx, _, _, h1, AF.c_Editions, AF.n_Editions_latest, rfl, ?_⟩
    and_intros
    rcases k with ⟨a, k⟩ | ⟨a, k⟩
    · rw [decide_eq_false (show ¬ d < l0 by omega), if_neg (by decide)]
      exact k
    · rw [decide_eq_true a, if_pos rfl]
      exact ⟨Nat.le_of_lt (small_line (by decide)), k⟩
theorem out_map {κ : Type} [DecidableEq κ] {es : List Ben} {f : Ben → κ} {g : Ben → V} {k : κ} : outK (es.map fun e => (f e, g e)) k = (es.filter fun e => decide (f e ≠ k)).map fun e => (f e, g e) := by
  unfold outK
  rw [List.filter_map]; rfl
theorem out_num (es : List Ben) (n : Int) : outK (numD es) (.inl n) = numD (es.filter fun e => decide (e.num ≠ n)) := by
  rw [numD_eq, numD_eq, out_map]
  congr 1
  refine List.filter_congr fun e _ => ?_
  rw [decide_eq_decide]
  exact ⟨fun h z => h (by rw [z]), fun h z => h (Sum.inl.inj z)⟩
theorem out_ent (es : List Ben) (k : List Key) : outK (entD es) k = entD (es.filter fun e => decide (e.key ≠ k)) := by
  unfold entD
  rw [out_map]
theorem num_key {es : List Ben} {e : Ben} (h1 : (es.map (·.num)).Nodup) (h2 : (es.map (·.key)).Nodup) (he : e ∈ es) : es.filter (fun x => decide (x.num ≠ e.num)) = es.filter fun x => decide (x.key ≠ e.key) := by
  refine List.filter_congr fun x hx => ?_
  rw [decide_eq_decide]
  refine not_congr ⟨fun h => ?_, fun h => ?_⟩
  · rw [inj_on h1 hx he h]
  · rw [inj_on h2 hx he h]
def sp_Book_strike (Ad : Ads) : Sp := fun vs H Q _ => ∃ (b ca dn de p : Addr) (es : List Ben) (e : Ben), vs = [.ref b, .ref p] ∧ BookAt Ad H b ca dn de es ∧ e ∈ es ∧ H p = some (.tup (e.key.map kV)) ∧ EnOk e.key ∧
  ∀ H', (∀ c o, c ≠ dn → c ≠ de → H c = some o → H' c = some o) → BookAt Ad H' b ca dn de (es.filter fun x => decide (x.num ≠ e.num)) → Q (.int e.num) H'
theorem sc_Book_strike : FnScope ["self", "entry", "freed"] ["self", "entry"] (defScope s_Book_strike) := ⟨rfl, rfl, rfl, by decide +kernel, rfl, by decide +kernel, by decide +kernel⟩
theorem ok_Book_strike {f : Addr} {fd : FuncData} (F : Fun K "strike" "Book.strike" s_Book_strike f fd) (T : Bl mg) (AF : AdF K mg Ad) (M_Book_number : Mtd P w K mg base (CX1 P w) Ad.Book "number" 4 ["self", "entry"] (sp_Book_number Ad)) : FnOk P w K mg base (CX1 P w) 5 f fd ["self", "entry"] (sp_Book_strike Ad) := by
  refine F.okX (k := 4) sc_Book_strike (fun vs H Q E h => ?_) (fun cdv A outer s H vs Q E hr h => ?_)
  · obtain ⟨b, ca, dn, de, p, es, e, rfl, _⟩ := h
    rfl
  · obtain ⟨b, ca, dn, de, p, es, e, rfl, B, he, hp, ok, k⟩ := h
    obtain ⟨dx, h1⟩ := B.bk
    have hu := hr.units0
    have hu1 := hu_of hr
    refine ⟨_, pss_cons (ps_setL (i := 2) sc_Book_strike.nd (pe_methX M_Book_number pass_def (hr.mono (by decide)) (pvL 0) (pa_c (pvL 1) (pa_nil)))) (pss_cons (ps_if (pt_cmpR op_isX (pvL 2) (pe_non) (nomark _)) (pss_one (ps_raise PySem.F.excBase_ValueError AF.q_NoEntry AF.g_NoEntry raise_def rfl (pa_c (pe_str) (pa_nil)))) (pss_nil)) (pss_cons (ps_expr (pe_bmG (K := K) rfl PySem.F.plainAttrs_dict PySem.F.slot_dict_pop PySem.F.type_dict_pop (mt_popT hu1) (pe_fldX (K := K) rfl (pvL 0)) (pa_c (pvL 1) (pa_nil)))) (pss_cons (ps_expr (pe_bmG (K := K) rfl PySem.F.plainAttrs_dict PySem.F.slot_dict_pop PySem.F.type_dict_pop mt_popK (pe_fldX (K := K) rfl (pvL 0)) (pa_c (pvL 2) (pa_nil)))) (pss_one (ps_ret (pvL 2)))))), ?_⟩
    refine seq_go fun nn hN => ?_
    and_intros
    refine ⟨dx, _, h1, bookF_none (by decide) (by decide) (by decide) ca dn de, b, ca, dn, de, es, .ref p, .tup, rfl, B, by show tagO (H p) = _; rw [hp]; rfl, fun q xs e1 e2 => ?_, fun hv => ?_, fun q key e1 e2 e3 => ⟨fun e' he' ek H1 s1 => ?_, fun hno => ?_⟩⟩
    · cases e1
      rw [hp] at e2
      cases e2
      refine ⟨by rw [List.length_map]; have := ok.few; omega, fun y hy => ⟨?_, fun z ez => ok.short z (by rw [← ez]; exact hy)⟩⟩
      obtain ⟨x, _, rfl⟩ := List.mem_map.mp hy
      cases x with
      | inl i => exact ⟨.int, rfl⟩
      | inr i => exact ⟨.str, rfl⟩
    · rw [entV_of hp ok] at hv; cases hv
    · cases e1
      rw [hp] at e2
      have ekk : e.key.map kV = key.map kV := by injection e2 with e2; injection e2
      have ek2 : e.key = key := kVs_inj ekk
      have ee : e' = e := inj_on B.nk he' he (by rw [ek, ek2])
      subst ee
      have B1 := B.same s1
      obtain ⟨dx1, h11⟩ := B1.bk
      rw [hN]
      clear hN nn
      refine seq_go fun nn hN => ?_
      and_intros
      show nn _ _ _
      rw [hN]
      clear hN nn
      refine seq_go fun nn hN => ?_
      and_intros
      have dne : dn ≠ de := fun e => by have := B1.hn; rw [e, B1.he] at this; cases this
      have pne : p ≠ de := fun e => by have := B1.he; rw [← e, s1 _ _ hp] at this; cases this
      have bne : b ≠ de := fun e => by rw [e, B1.he] at h11; cases h11
      have bnn : b ≠ dn := fun e => by rw [e, B1.hn] at h11; cases h11
      refine ⟨_, dx1, _, _, h11, AF.c_Book, AF.n_Book_by_entry, bookF_ent ca dn de, .inr (.inr (.inl ⟨rfl, .inr ⟨_, B1.he⟩⟩)), ?_⟩
      and_intros
      refine ⟨_, e'.key, _, B1.he, s1 _ _ hp, ent_val B.nk he, ?_⟩
      rw [hN]
      clear hN nn
      refine seq_go fun nn hN => ?_
      and_intros
      refine ⟨_, dx1, _, _, by rw [upd_ne bne]; exact h11, AF.c_Book, AF.n_Book_by_number, bookF_num ca dn de, .inr (.inr (.inl ⟨rfl, .inl ⟨_, by rw [upd_ne dne]; exact B1.hn⟩⟩)), ?_⟩
      and_intros
      refine ⟨_, .inl e'.num, _, by rw [upd_ne dne]; exact B1.hn, rfl, num_val B.nn he, ?_⟩
      rw [hN]
      clear hN nn
      and_intros
      rw [out_num, out_ent, ← num_key B.nn B.nk he]
      refine k _ (fun c o c1 c2 ec => by rw [upd_ne c1, upd_ne c2]; exact s1 _ _ ec) ⟨⟨dx1, by rw [upd_ne bnn, upd_ne bne]; exact h11⟩, upd_same, by rw [upd_ne (Ne.symm dne)]; exact upd_same, fun u hu => ?_, List.Nodup.sublist (List.Sublist.map _ List.filter_sublist) B.nn, List.Nodup.sublist (List.Sublist.map _ List.filter_sublist) B.nk⟩
      have hu1 := B1.en u (List.mem_filter.mp hu).1
      have u1 : u.adr ≠ dn := fun e => by rw [e, B1.hn] at hu1; cases hu1
      have u2 : u.adr ≠ de := fun e => by rw [e, B1.he] at hu1; cases hu1
      rw [upd_ne u1, upd_ne u2]
      exact hu1
    · cases e1
      rw [hp] at e2
      have ekk : e.key.map kV = key.map kV := by injection e2 with e2; injection e2
      exact absurd (List.mem_map.mpr ⟨e, he, kVs_inj ekk⟩) hno
def sp_Book_put (Ad : Ads) : Sp := fun vs H Q _ => ∃ (b ca dn de t : Addr) (es : List Ben) (al : List Nat) (ws : List Int) (r n : Int) (key : List Key) (y : V), vs = [.ref b, .ref t, y] ∧ BookAt Ad H b ca dn de es ∧ CodeAt Ad H ca al ws r ∧ CodeOk al ws r ∧ H Ad.tb = some (tabO lamQ) ∧ H t = some (.tup (key.map kV)) ∧ EnOk key ∧ key ∉ es.map (·.key) ∧ es.length < 300 ∧
  0 ≤ n ∧ n < ManyI al ws ∧ n ∉ es.map (·.num) ∧ y = .int n ∧ ∀ H', (∀ c o, c ≠ dn → c ≠ de → H c = some o → H' c = some o) → BookAt Ad H' b ca dn de (es ++ [⟨n, key, t⟩]) → Q (.int n) H'
theorem sc_Book_put : FnScope ["self", "entry", "number", "given"] ["self", "entry", "number"] (defScope s_Book_put) := ⟨rfl, rfl, rfl, by decide +kernel, rfl, by decide +kernel, by decide +kernel⟩
theorem ok_Book_put {f : Addr} {fd : FuncData} (F : FunD K "put" "Book.put" s_Book_put f fd) (T : Bl mg) (AF : AdF K mg Ad) (CD : fd.code = .ref Ad.cd) (M_Book_choose : MtdHO P w K mg base (CX1 P w) Ad.Book "choose" 4 1 ["self", "entry", "number", "is_barred"] (sp_Book_choose Ad)) : FnOk P w K mg base (CX1 P w) 6 f fd ["self", "entry", "number"] (sp_Book_put Ad) := by
  refine F.okT (k := 5) CD sc_Book_put (fun vs H Q E h => ?_) (fun A outer s H vs Q E hr h => ?_)
  · obtain ⟨b, ca, dn, de, t, es, al, ws, r, n, key, y, rfl, _⟩ := h
    rfl
  · obtain ⟨b, ca, dn, de, t, es, al, ws, r, n, key, y, rfl, B, C, ok, Tb, ht, eo, hk, h300, n0, n1, hnn, hy, k⟩ := h
    obtain ⟨dx, h1⟩ := B.bk
    have hu := hr.units0
    have hu1 := hu_of hr
    refine ⟨_, pss_cons (ps_setL (i := 3) sc_Book_put.nd (pe_methHO (k := 0) (ps := ["k"]) (fr := []) (js := []) (q := lamQ) M_Book_choose rfl rfl pass_def (hr.mono (by decide)) (pvL 0) (pvL 1) (pvL 2) rfl AF.t_tab (by kernel_rfl) rfl (.nil) (fun _ _ _ => L2.bind1 fun _ => rfl) (fun _ _ _ _ _ _ hr => pe_bl) (by decide +kernel) (by decide +kernel))) (pss_cons (ps_dputG hu1 (pe_fldX (K := K) rfl (pvL 0)) (pvL 3) (pvL 1)) (pss_cons (ps_dputG hu1 (pe_fldX (K := K) rfl (pvL 0)) (pvL 1) (pvL 3)) (pss_one (ps_ret (pvL 3))))), ?_⟩
    refine seq_go fun nn hN => ?_
    and_intros
    refine ⟨dx, _, h1, bookF_none (by decide) (by decide) (by decide) ca dn de, Tb, fun f G1 z1 t1 _ => ?_⟩
    subst hy
    refine ⟨b, ca, dn, de, f, t, es, al, ws, r, n, key, .int n, fun _ => false, rfl, B.same t1, C.same t1, ok, fun _ G Q' _ k => k G (Same.refl _), t1 _ _ ht, eo, h300, .inr (.inl ⟨hk, rfl, n0, n1, hnn, rfl, fun G2 t2 => ?_⟩)⟩
    have t02 := t1.trans t2
    have B2 := B.same t02
    obtain ⟨dx2, h12⟩ := B2.bk
    rw [hN]
    clear hN nn
    refine seq_go fun nn hN => ?_
    and_intros
    refine ⟨_, dx2, _, _, h12, AF.c_Book, AF.n_Book_by_number, bookF_num ca dn de, dn, _, rfl, .inl ⟨_, .inl n, B2.hn, rfl, by rw [numD_len]; exact small_line (by omega), rfl⟩, ?_⟩
    rw [put_new (num_no hnn), show numD es ++ [((.inl n : Key), V.ref t)] = numD (es ++ [⟨n, key, t⟩]) from (numD_snoc es ⟨n, key, t⟩).symm]
    have hnb : dn ≠ b := ne_of B2.hn h12 (by intro z; cases z)
    have heb : de ≠ b := ne_of B2.he h12 (by intro z; cases z)
    have hne : dn ≠ de := ne_of B2.hn B2.he (by intro z; cases z)
    have hdt : ∀ {c : Addr} {xs : List V}, G2 c = some (.tup xs) → c ≠ dn ∧ c ≠ de := fun h => ⟨ne_of h B2.hn (by intro z; cases z), ne_of h B2.he (by intro z; cases z)⟩
    have k3 : ∀ c o, c ≠ dn → G2 c = some o → upd G2 dn (.dK (numD (es ++ [⟨n, key, t⟩]))) c = some o := fun c o hc h => by rw [upd_ne hc]; exact h
    have g3 : upd G2 dn (.dK (numD (es ++ [⟨n, key, t⟩]))) dn = some (.dK (numD (es ++ [⟨n, key, t⟩]))) := upd_same
    generalize upd G2 dn (.dK (numD (es ++ [⟨n, key, t⟩]))) = G3 at k3 g3
    rw [hN]
    clear hN nn
    have ht2 := t02 _ _ ht
    have hb3 := k3 _ _ hnb.symm h12
    refine seq_go fun nn hN => ?_
    and_intros
    refine ⟨_, dx2, _, _, hb3, AF.c_Book, AF.n_Book_by_entry, bookF_ent ca dn de, de, _, rfl, .inr ⟨_, key, t, k3 _ _ hne.symm B2.he, rfl, k3 _ _ (hdt ht2).1 ht2, by show (entD es).length < _; unfold entD; rw [List.length_map]; exact small_line (by omega), rfl⟩, ?_⟩
    rw [put_new (ent_no hk), show entD es ++ [(key, V.int n)] = entD (es ++ [⟨n, key, t⟩]) from (entD_snoc es ⟨n, key, t⟩).symm]
    have k4 : ∀ c o, c ≠ de → G3 c = some o → upd G3 de (.dT (entD (es ++ [⟨n, key, t⟩]))) c = some o := fun c o hc h => by rw [upd_ne hc]; exact h
    have g4 : upd G3 de (.dT (entD (es ++ [⟨n, key, t⟩]))) de = some (.dT (entD (es ++ [⟨n, key, t⟩]))) := upd_same
    generalize upd G3 de (.dT (entD (es ++ [⟨n, key, t⟩]))) = G4 at k4 g4
    rw [hN]
    clear hN nn
    and_intros
    refine k G4 (fun c o h1 h2 h => k4 _ _ h2 (k3 _ _ h1 (t02 _ _ h))) ⟨⟨dx2, k4 _ _ heb.symm hb3⟩, k4 _ _ hne g3, g4, fun e he => ?_, ?_, ?_⟩
    · rcases List.mem_append.mp he with he | he
      · have := B2.en e he
        exact k4 _ _ (hdt this).2 (k3 _ _ (hdt this).1 this)
      · rw [List.mem_singleton.mp he]
        exact k4 _ _ (hdt ht2).2 (k3 _ _ (hdt ht2).1 ht2)
    · rw [List.map_append]; exact nd_snoc B.nn hnn
    · rw [List.map_append]; exact nd_snoc B.nk hk
def sp_Editions_strike (Ad : Ads) : Sp := fun vs H Q _ => ∃ (ed b ca dn de cl sd t : Addr) (es : List Ben) (lk : Lk) (l0 day : Int) (m : Nat) (e : Ben), vs = [.ref ed, .int day, .ref t] ∧ EdAt Ad H ed b ca dn de cl sd es lk l0 m ∧ H t = some (.tup (e.key.map kV)) ∧ e ∈ es ∧ EnOk e.key ∧ m < 999 ∧ 0 ≤ day ∧ day ≤ 1000000000 ∧ l0 ≤ day ∧
  ∀ H', (∀ c o, c ≠ ed → c ≠ dn → c ≠ de → c ≠ cl → c ≠ sd → H c = some o → H' c = some o) → EdAt Ad H' ed b ca dn de cl sd (es.filter fun x => decide (x.num ≠ e.num)) (fun i => if i = e.num then some (day, e.key) else lk i) day (m + 1) → Q (.int e.num) H'
theorem sc_Editions_strike : FnScope ["self", "day", "entry", "freed"] ["self", "day", "entry"] (defScope s_Editions_strike) := ⟨rfl, rfl, rfl, by decide +kernel, rfl, by decide +kernel, by decide +kernel⟩
theorem ok_Editions_strike {f : Addr} {fd : FuncData} (F : Fun K "strike" "Editions.strike" s_Editions_strike f fd) (T : Bl mg) (AF : AdF K mg Ad) (M_Editions_note_change : Mtd P w K mg base (CX1 P w) Ad.Editions "note_change" 1 ["self", "day", "number", "entry"] (sp_Editions_note_change Ad)) (M_Book_strike : Mtd P w K mg base (CX1 P w) Ad.Book "strike" 5 ["self", "entry"] (sp_Book_strike Ad)) (M_Editions_check_change : Mtd P w K mg base (CX1 P w) Ad.Editions "check_change" 4 ["self", "day"] (sp_Editions_check_change Ad)) : FnOk P w K mg base (CX1 P w) 6 f fd ["self", "day", "entry"] (sp_Editions_strike Ad) := by
  refine F.okX (k := 5) sc_Editions_strike (fun vs H Q E h => ?_) (fun cdv A outer s H vs Q E hr h => ?_)
  · obtain ⟨ed, b, ca, dn, de, cl, sd, t, es, lk, l0, day, m, e, rfl, _⟩ := h
    rfl
  · obtain ⟨ed, b, ca, dn, de, cl, sd, t, es, lk, l0, day, m, e, rfl, D, ht, he, eo, m9, d0, d1, ld, k⟩ := h
    obtain ⟨dx, h1⟩ := D.eF
    obtain ⟨cs, hcl, lcl⟩ := D.cF
    obtain ⟨kvs, hsd, S, lsd⟩ := D.sF
    have B := D.bF
    obtain ⟨bx, hb⟩ := B.bk
    have hu := hr.units0
    have hu1 := hu_of hr
    refine ⟨_, pss_cons (ps_expr (pe_methX M_Editions_check_change pass_def (hr.mono (by decide)) (pvL 0) (pa_c (pvL 1) (pa_nil)))) (pss_cons (ps_setL (i := 3) sc_Editions_strike.nd (pe_methX M_Book_strike pass_def (hr.mono (by decide)) (pe_fldX (K := K) rfl (pvL 0)) (pa_c (pvL 2) (pa_nil)))) (pss_cons (ps_dputG hu1 (pe_fldX (K := K) rfl (pvL 0)) (pvL 3) (pe_tupX (pa_c (pvL 1) (pa_c (pvL 2) (pa_nil))))) (pss_cons (ps_expr (pe_methX M_Editions_note_change pass_def (hr.mono (by decide)) (pvL 0) (pa_c (pvL 1) (pa_c (pvL 3) (pa_c (pe_non) (pa_nil)))))) (pss_one (ps_ret (pvL 3)))))), ?_⟩
    refine seq_go fun nn hN => ?_
    and_intros
    refine ⟨dx, _, h1, rfl, ed, dx, b, cl, sd, l0, day, rfl, h1, d0, d1, .inl ⟨ld, ?_⟩⟩
    rw [hN]
    clear hN nn
    refine seq_go fun nn hN => ?_
    and_intros
    refine ⟨_, dx, _, _, h1, AF.c_Editions, AF.n_Editions_current, rfl, ?_⟩
    and_intros
    refine ⟨bx, _, hb, bookF_none (by decide) (by decide) (by decide) ca dn de, b, ca, dn, de, t, es, e, rfl, B, he, ht, eo, fun G1 k1 B1 => ?_⟩
    rw [hN]
    clear hN nn
    have nen : ed ≠ dn := ne_of h1 B.hn (by intro z; cases z)
    have nee : ed ≠ de := ne_of h1 B.he (by intro z; cases z)
    have ncn : cl ≠ dn := ne_of hcl B.hn (by intro z; cases z)
    have nce : cl ≠ de := ne_of hcl B.he (by intro z; cases z)
    have nse : sd ≠ de := ne_of hsd B.he (by intro z; cases z)
    have h11 := k1 _ _ nen nee h1
    have hcl1 := k1 _ _ ncn nce hcl
    have hsd1 := k1 _ _ D.ne.symm nse hsd
    have ht1 := k1 _ _ (ne_of ht B.hn (by intro z; cases z)) (ne_of ht B.he (by intro z; cases z)) ht
    refine seq_go fun nn hN => ?_
    and_intros
    refine ⟨Nat.le_of_lt (small_line (by decide)), fun p G2 hp t2 g2 => ?_⟩
    have h12 := t2 _ _ h11
    have hcl2 := t2 _ _ hcl1
    have hsd2 := t2 _ _ hsd1
    have ht2 := t2 _ _ ht1
    refine ⟨_, dx, _, _, h12, AF.c_Editions, AF.n_Editions_struck, rfl, sd, _, rfl, .inl ⟨_, .inl e.num, hsd2, rfl, small_line (by omega), rfl⟩, ?_⟩
    have k3 : ∀ c o, c ≠ sd → G2 c = some o → upd G2 sd (HO.dK (putK kvs (Sum.inl e.num) (V.ref p))) c = some o := fun c o hc z => by rw [upd_ne hc]; exact z
    have g3 : upd G2 sd (HO.dK (putK kvs (Sum.inl e.num) (V.ref p))) sd = some (.dK (putK kvs (Sum.inl e.num) (V.ref p))) := upd_same
    generalize upd G2 sd (HO.dK (putK kvs (Sum.inl e.num) (V.ref p))) = G3 at k3 g3
    have ns : ∀ {c : Addr} {o : HO}, G2 c = some o → (∀ kvs, o ≠ .dK kvs) → c ≠ sd := fun {c o} z hz y => by rw [y, hsd2] at z; cases z; exact hz _ rfl
    have h13 := k3 _ _ (ns h12 fun _ z => by cases z) h12
    have hcl3 := k3 _ _ (ns hcl2 fun _ z => by cases z) hcl2
    rw [hN]
    clear hN nn
    refine seq_go fun nn hN => ?_
    and_intros
    refine ⟨dx, _, h13, rfl, ed, dx, b, cl, sd, l0, day, .int e.num, .non, cs, rfl, h13, hcl3, by omega, fun p' G4 hp' k4 h14 g4 hcl4 => ?_⟩
    rw [hN]
    clear hN nn
    and_intros
    have B2 := B1.same t2
    obtain ⟨bx2, hb2⟩ := B2.bk
    have B3 : BookAt Ad G3 b ca dn de (es.filter fun x => decide (x.num ≠ e.num)) := ⟨⟨bx2, k3 _ _ (ns hb2 fun _ z => by cases z) hb2⟩, k3 _ _ D.ne B2.hn, k3 _ _ (ns B2.he fun _ z => by cases z) B2.he, fun x hx => k3 _ _ (ns (B2.en x hx) fun _ z => by cases z) (B2.en x hx), B2.nn, B2.nk⟩
    have tup2 : ∀ c xs, G2 c = some (.tup xs) → G4 c = some (.tup xs) := fun c xs z => by
      have z3 := k3 _ _ (ns z fun _ z => by cases z) z
      exact k4 _ _ (ne_of z3 h13 (by intro z; cases z)) (ne_of z3 hcl3 (by intro z; cases z)) z3
    refine k G4 (fun c o e1 e2 e3 e4 e5 z => k4 c o e1 e4 (k3 c o e5 (t2 _ _ (k1 c o e2 e3 z)))) ⟨⟨dx, h14⟩, B3.past h13 hcl3 k4, ⟨_, hcl4, by rw [List.length_append]; show cs.length + 1 ≤ _; omega⟩, ⟨_, k4 _ _ (ne_of g3 h13 (by intro z; cases z)) (ne_of g3 hcl3 (by intro z; cases z)) g3, fun i => ?_, ?_⟩, D.ne⟩
    · rw [valV_put]
      dsimp only
      by_cases hi : i = e.num
      · rw [if_pos (by rw [hi]), if_pos hi]
        exact .inr ⟨p, t, day, e.key, rfl, tup2 _ _ g2, tup2 _ _ ht2, eo, rfl⟩
      · rw [if_neg (fun z => hi (Sum.inl.inj z)), if_neg hi]
        have S1 : StAt G1 kvs lk := S.past fun c xs z => k1 _ _ (ne_of z B.hn (by intro z; cases z)) (ne_of z B.he (by intro z; cases z)) z
        exact (S1.same t2).past tup2 i
    · have := length_putK kvs (Sum.inl e.num) (V.ref p)
      omega
def sp_Editions_put (Ad : Ads) : Sp := fun vs H Q E => ∃ (ed b ca dn de cl sd t : Addr) (es : List Ben) (lk : Lk) (l0 day n : Int) (m : Nat) (al : List Nat) (ws : List Int) (r : Int) (key : List Key) (y : V), vs = [.ref ed, .int day, .ref t, y] ∧ EdAt Ad H ed b ca dn de cl sd es lk l0 m ∧ CodeAt Ad H ca al ws r ∧ CodeOk al ws r ∧ H Ad.tb = some (tabO lamQ) ∧ H Ad.tb1 = some (tabO lamQ1) ∧ H t = some (.tup (key.map kV)) ∧ EnOk key ∧ es.length < 300 ∧ m < 999 ∧ 0 ≤ day ∧ day ≤ 1000000000 ∧
  ((day < l0 ∧ E (.ref Ad.NoDay) none H) ∨ (l0 ≤ day ∧
   ((key ∈ es.map (·.key) ∧ (∀ H', Same H H' → E (.ref Ad.Twice) none H')) ∨
    (key ∉ es.map (·.key) ∧ y = .int n ∧ 0 ≤ n ∧ n < ManyI al ws ∧ (n ∈ es.map (·.num) ∨ barE lk day key n = true) ∧ ∀ H', Same H H' → E (.ref Ad.NoNumber) none H') ∨
    (key ∉ es.map (·.key) ∧ y = .non ∧ LeastB (es.map (·.num)) (barE lk day key) n ∧ ManyI al ws ≤ n ∧ ∀ H', Same H H' → E (.ref Ad.TooMany) none H') ∨
    (key ∉ es.map (·.key) ∧ ((y = .int n ∧ 0 ≤ n ∧ n ∉ es.map (·.num) ∧ barE lk day key n = false) ∨ (y = .non ∧ LeastB (es.map (·.num)) (barE lk day key) n)) ∧ n < ManyI al ws ∧
      ∀ H', (∀ c o, c ≠ ed → c ≠ dn → c ≠ de → c ≠ cl → H c = some o → H' c = some o) → EdAt Ad H' ed b ca dn de cl sd (es ++ [⟨n, key, t⟩]) lk day (m + 1) → Q (.int n) H'))))
theorem sc_Editions_put : FnScope ["self", "day", "entry", "number", "given"] ["self", "day", "entry", "number"] (defScope s_Editions_put) := ⟨rfl, rfl, rfl, by decide +kernel, rfl, by decide +kernel, by decide +kernel⟩
theorem ok_Editions_put {f : Addr} {fd : FuncData} (F : FunD K "put" "Editions.put" s_Editions_put f fd) (T : Bl mg) (AF : AdF K mg Ad) (CD : fd.code = .ref Ad.cd1) (M_Editions_note_change : Mtd P w K mg base (CX1 P w) Ad.Editions "note_change" 1 ["self", "day", "number", "entry"] (sp_Editions_note_change Ad)) (M_Book_put : Mtd P w K mg base (CX1 P w) Ad.Book "put" 6 ["self", "entry", "number"] (sp_Book_put Ad)) (M_Book_choose : MtdHO P w K mg base (CX1 P w) Ad.Book "choose" 4 1 ["self", "entry", "number", "is_barred"] (sp_Book_choose Ad)) (M_Editions_is_barred : Mtd P w K mg base (CX1 P w) Ad.Editions "is_barred" 1 ["self", "day", "entry", "number"] (sp_Editions_is_barred K Ad)) (M_Editions_check_change : Mtd P w K mg base (CX1 P w) Ad.Editions "check_change" 4 ["self", "day"] (sp_Editions_check_change Ad)) : FnOk P w K mg base (CX1 P w) 7 f fd ["self", "day", "entry", "number"] (sp_Editions_put Ad) := by
  refine F.okT (k := 6) CD sc_Editions_put (fun vs H Q E h => ?_) (fun A outer s H vs Q E hr h => ?_)
  · obtain ⟨ed, b, ca, dn, de, cl, sd, t, es, lk, l0, day, n, m, al, ws, r, key, y, rfl, _⟩ := h
    rfl
  · obtain ⟨ed, b, ca, dn, de, cl, sd, t, es, lk, l0, day, n, m, al, ws, r, key, y, rfl, D, C, ok, Tb, Tb1, ht, eo, h300, m9, d0, d1, ks⟩ := h
    obtain ⟨dx, h1⟩ := D.eF
    obtain ⟨cs, hcl, lcl⟩ := D.cF
    obtain ⟨kvs, hsd, S, lsd⟩ := D.sF
    have hu := hr.units0
    have hu1 := hu_of hr
    refine ⟨_, pss_cons (ps_expr (pe_methX M_Editions_check_change pass_def (hr.mono (by decide)) (pvC 0) (pa_c (pvC 1) (pa_nil)))) (pss_cons (ps_setL (i := 4) sc_Editions_put.nd (pe_methHO (k := 1) (ps := ["k"]) (fr := ["day", "entry", "self"]) (js := [1, 2, 0]) (q := lamQ1) M_Book_choose rfl rfl pass_def (hr.mono (by decide)) (pe_fldX (K := K) rfl (pvC 0)) (pvC 2) (pvL 3) rfl AF.t_tab1 (by kernel_rfl) rfl (.cons ⟨rfl, .inr (.inl rfl), rfl, by decide +kernel, rfl⟩ (.cons ⟨rfl, .inr (.inl rfl), rfl, by decide +kernel, rfl⟩ (.cons ⟨rfl, .inr (.inl rfl), rfl, by decide +kernel, rfl⟩ (.nil)))) (fun _ _ _ => L2.bind1 fun _ => rfl) (fun _ _ _ _ _ _ hr => pe_methX M_Editions_is_barred passE0 (hr.mono (by decide)) (pvF 3) (pa_c (pvF 1) (pa_c (pvF 2) (pa_c (pvL 0) (pa_nil))))) (by decide +kernel) (by decide +kernel))) (pss_cons (ps_expr (pe_methX M_Book_put pass_def (hr.mono (by decide)) (pe_fldX (K := K) rfl (pvC 0)) (pa_c (pvC 2) (pa_c (pvL 4) (pa_nil))))) (pss_cons (ps_expr (pe_methX M_Editions_note_change pass_def (hr.mono (by decide)) (pvC 0) (pa_c (pvC 1) (pa_c (pvL 4) (pa_c (pvC 2) (pa_nil)))))) (pss_one (ps_ret (pvL 4)))))), ?_⟩
    refine seq_go fun nn hN => ?_
    and_intros
    refine ⟨dx, _, h1, rfl, ed, dx, b, cl, sd, l0, day, rfl, h1, d0, d1, ?_⟩
    rcases ks with ⟨a, k⟩ | ⟨ld, ks⟩
    · exact .inr ⟨a, k⟩
    refine .inl ⟨ld, ?_⟩
    rw [hN]
    clear hN nn
    obtain ⟨bx, hb⟩ := D.bF.bk
    refine seq_go fun nn hN => ?_
    and_intros
    refine ⟨_, dx, _, _, h1, AF.c_Editions, AF.n_Editions_current, rfl, ?_⟩
    and_intros
    have B := D.bF
    refine ⟨bx, _, hb, bookF_none (by decide) (by decide) (by decide) ca dn de, Tb1, fun f G1 hf t1 _ => ?_⟩
    have D1 := D.same t1
    have hbar : ∀ {spf : Sp}, (∀ (i : Int) (G : Hp) (Q' : VK), sp_Editions_is_barred K Ad [.ref ed, .int day, .ref t, .int i] G Q' XF → (∃ dx fs, G ed = some (HO.ins Ad.Editions dx fs) ∧ fs.lookup (Str.ofString "is_barred") = none) → spf [.int i] G Q' XF) → Bar spf (barE lk day key) G1 := fun {spf} h i G Q' tG kG => by
      refine h i G Q' ⟨ed, dx, b, cl, sd, t, l0, day, i, kvs, lk, key, rfl, tG _ _ (t1 _ _ h1), tG _ _ (t1 _ _ hsd), S.same (t1.trans tG), tG _ _ (t1 _ _ ht), eo, fun G' t' => kG G' t'⟩ ⟨dx, _, tG _ _ (t1 _ _ h1), rfl⟩
    have cho : ∀ {spf : Sp} {Q' : VK}, Bar spf (barE lk day key) G1 → (∀ G2, Same G1 G2 → n < ManyI al ws → key ∉ es.map (·.key) → n ∉ es.map (·.num) → 0 ≤ n → (∀ H', (∀ c o, c ≠ ed → c ≠ dn → c ≠ de → c ≠ cl → H c = some o → H' c = some o) → EdAt Ad H' ed b ca dn de cl sd (es ++ [⟨n, key, t⟩]) lk day (m + 1) → Q (.int n) H') → Q' (.int n) G2) → sp_Book_choose Ad spf [V.ref b, V.ref t, y, V.ref f] G1 Q' E := fun {spf Q'} hB hQ => by
      refine ⟨b, ca, dn, de, f, t, es, al, ws, r, n, key, y, barE lk day key, rfl, B.same t1, C.same t1, ok, hB, t1 _ _ ht, eo, h300, ?_⟩
      rcases ks with ⟨a, k⟩ | ⟨a, e, n0, n1, o, k⟩ | ⟨a, e, L, n1, k⟩ | ⟨a, ⟨e, n0, o, p⟩ | ⟨e, L⟩, n1, k⟩
      · exact .inl ⟨a, fun G2 t2 => k G2 (t1.trans t2)⟩
      · exact .inr (.inr (.inl ⟨a, e, n0, n1, o, fun G2 t2 => k G2 (t1.trans t2)⟩))
      · exact .inr (.inr (.inr (.inr ⟨a, e, L, n1, fun G2 t2 => k G2 (t1.trans t2)⟩)))
      · exact .inr (.inl ⟨a, e, n0, n1, o, p, fun G2 t2 => hQ G2 t2 n1 a o n0 k⟩)
      · exact .inr (.inr (.inr (.inl ⟨a, e, L, n1, fun G2 t2 => hQ G2 t2 n1 a L.out L.pos k⟩)))
    refine cho (hbar fun i G Q' hs hf' => ?_) fun G2 t2 n1 hk hn n0 k => ?_
    · obtain ⟨dx', fs', e1, e2⟩ := hf'
      exact ⟨_, rfl, dx', fs', e1, e2, _, rfl, _, rfl, _, rfl, hs⟩
    rw [hN]
    clear hN nn cho hbar ks
    have t02 := t1.trans t2
    have h12 := t02 _ _ h1
    have B2 := B.same t02
    obtain ⟨bx2, hb2⟩ := B2.bk
    refine seq_go fun nn hN => ?_
    and_intros
    refine ⟨_, dx, _, _, h12, AF.c_Editions, AF.n_Editions_current, rfl, ?_⟩
    and_intros
    refine ⟨bx2, _, hb2, bookF_none (by decide) (by decide) (by decide) ca dn de, b, ca, dn, de, t, es, al, ws, r, n, key, .int n, rfl, B2, C.same t02, ok, t02 _ _ Tb, t02 _ _ ht, eo, hk, h300, n0, n1, hn, rfl, fun G3 k3 B3 => ?_⟩
    rw [hN]
    clear hN nn
    have nen : ed ≠ dn := ne_of h12 B2.hn (by intro z; cases z)
    have nee : ed ≠ de := ne_of h12 B2.he (by intro z; cases z)
    have ncn : cl ≠ dn := ne_of (t02 _ _ hcl) B2.hn (by intro z; cases z)
    have nce : cl ≠ de := ne_of (t02 _ _ hcl) B2.he (by intro z; cases z)
    have nse : sd ≠ de := ne_of (t02 _ _ hsd) B2.he (by intro z; cases z)
    have h13 := k3 _ _ nen nee h12
    have hcl3 := k3 _ _ ncn nce (t02 _ _ hcl)
    have hsd3 := k3 _ _ D.ne.symm nse (t02 _ _ hsd)
    refine seq_go fun nn hN => ?_
    and_intros
    refine ⟨dx, _, h13, rfl, ed, dx, b, cl, sd, l0, day, .int n, .ref t, cs, rfl, h13, hcl3, by omega, fun p G4 hp k4 h14 g4 hcl4 => ?_⟩
    rw [hN]
    clear hN nn
    and_intros
    refine k G4 (fun c o e1 e2 e3 e4 e => k4 c o e1 e4 (k3 c o e2 e3 (t02 _ _ e))) ⟨⟨dx, h14⟩, B3.past h13 hcl3 k4, ⟨_, hcl4, by rw [List.length_append]; show cs.length + 1 ≤ _; omega⟩, ⟨kvs, ?_, S.past fun c xs e => ?_, by omega⟩, D.ne⟩
    · exact k4 _ _ (ne_of hsd3 h13 (by intro z; cases z)) (ne_of hsd3 hcl3 (by intro z; cases z)) hsd3
    · have e2 := t02 _ _ e
      have e3 := k3 _ _ (ne_of e2 B2.hn (by intro z; cases z)) (ne_of e2 B2.he (by intro z; cases z)) e2
      exact k4 _ _ (ne_of e3 h13 (by intro z; cases z)) (ne_of e3 hcl3 (by intro z; cases z)) e3
def EdN (Ad : Ads) (Q : VK) : XK := fun C d H1 => C = .ref Ad.NoNumber ∧ d = none ∧ ∀ H', Same H1 H' → Q (.str ("NoNumber" : Str)) H'
theorem put_mono {Ad : Ads} {vs : List V} {H : Hp} {Q Q' : VK} {E E' : XK} (h : sp_Editions_put Ad vs H Q E) (hq : ∀ x G, Q x G → Q' x G) (hE : ∀ c d G, E c d G → E' c d G) : sp_Editions_put Ad vs H Q' E' := by
  obtain ⟨ed, b, ca, dn, de, cl, sd, t, es, lk, l0, day, n, m, al, ws, r, key, y, e0, D, C, ok, Tb, Tb1, ht, eo, h300, m9, d0, d1, ks⟩ := h
  refine ⟨ed, b, ca, dn, de, cl, sd, t, es, lk, l0, day, n, m, al, ws, r, key, y, e0, D, C, ok, Tb, Tb1, ht, eo, h300, m9, d0, d1, ?_⟩
  rcases ks with ⟨a, k⟩ | ⟨a, ⟨u, k⟩ | ⟨u, v, w, x, z, k⟩ | ⟨u, v, w, x, k⟩ | ⟨u, v, w, k⟩⟩
  · exact .inl ⟨a, hE _ _ _ k⟩
  · exact .inr ⟨a, .inl ⟨u, fun G t => hE _ _ _ (k G t)⟩⟩
  · exact .inr ⟨a, .inr (.inl ⟨u, v, w, x, z, fun G t => hE _ _ _ (k G t)⟩)⟩
  · exact .inr ⟨a, .inr (.inr (.inl ⟨u, v, w, x, fun G t => hE _ _ _ (k G t)⟩))⟩
  · exact .inr ⟨a, .inr (.inr (.inr ⟨u, v, w, fun G f e => hq _ _ (k G f e)⟩))⟩
theorem strike_mono {Ad : Ads} {vs : List V} {H : Hp} {Q Q' : VK} {E E' : XK} (h : sp_Editions_strike Ad vs H Q E) (hq : ∀ x G, Q x G → Q' x G) : sp_Editions_strike Ad vs H Q' E' := by
  obtain ⟨ed, b, ca, dn, de, cl, sd, t, es, lk, l0, day, m, e, e0, D, ht, he, eo, m9, d0, d1, ld, k⟩ := h
  exact ⟨ed, b, ca, dn, de, cl, sd, t, es, lk, l0, day, m, e, e0, D, ht, he, eo, m9, d0, d1, ld, fun G f e => hq _ _ (k G f e)⟩
def sp_law_did (K : PySem.W.Frag) (Ad : Ads) : Sp := fun vs H Q _ => ∃ (ed q t : Addr) (srt : Str) (day : Int) (y : V), vs = [.ref ed, .ref q] ∧ H q = some (.tup [.str srt, .int day, .ref t, y]) ∧ (∃ dx fs, H ed = some (.ins Ad.Editions dx fs) ∧ fs.lookup (Str.ofString "put") = none ∧ fs.lookup (Str.ofString "strike") = none) ∧
  ((srt = ("strike" : Str) ∧ sp_Editions_strike Ad [.ref ed, .int day, .ref t] H Q XF) ∨ (srt = ("put" : Str) ∧ (y = .non ∨ ∃ i, y = .int i) ∧ sp_Editions_put Ad [.ref ed, .int day, .ref t, y] H Q (EdN Ad Q)))
theorem sc_law_did : FnScope ["_law_editions", "_law_deed", "_law_sort", "_law_day", "_law_entry", "_law_number", "_law_found", "e", "_law_some", "_law_k"] ["_law_editions", "_law_deed"] (defScope s_law_did) := ⟨rfl, rfl, rfl, by decide +kernel, rfl, by decide +kernel, by decide +kernel⟩
theorem ok_law_did {f : Addr} {fd : FuncData} (F : Fun K "_law_did" "_law_did" s_law_did f fd) (T : Bl mg) (AF : AdF K mg Ad) (M_Editions_strike : Mtd P w K mg base (CX1 P w) Ad.Editions "strike" 6 ["self", "day", "entry"] (sp_Editions_strike Ad)) (M_Editions_put : Mtd P w K mg base (CX1 P w) Ad.Editions "put" 7 ["self", "day", "entry", "number"] (sp_Editions_put Ad)) (D_Editions_put : MtdD P w K mg base (CX1 P w) Ad.Editions "put" 7 ["self", "day", "entry", "number"] (sp_Editions_put Ad)) : FnOk P w K mg base (CX1 P w) 8 f fd ["_law_editions", "_law_deed"] (sp_law_did K Ad) := by
  refine F.okX (k := 7) sc_law_did (fun vs H Q E h => ?_) (fun cdv A outer s H vs Q E hr h => ?_)
  · obtain ⟨ed, q, t, srt, day, y, rfl, _⟩ := h
    rfl
  · obtain ⟨ed, q, t, srt, day, y, rfl, hq, ⟨dx, fs, he, hfp, hfs⟩, k⟩ := h
    have hu := hr.units0
    have hu1 := hu_of hr
    refine ⟨_, pss_cons (ps_asg (pvL 1) (pg_unpK (K := K) (n := 4) rfl rfl (pgs_cons (pg_nameL (i := 2) sc_law_did.nd) (pgs_cons (pg_nameL (i := 3) sc_law_did.nd) (pgs_cons (pg_nameL (i := 4) sc_law_did.nd) (pgs_cons (pg_nameL (i := 5) sc_law_did.nd) (pgs_nil))))))) (pss_cons (ps_setL (i := 6) sc_law_did.nd (pe_str)) (pss_cons (ps_tryE (i := 7) rfl rfl rfl sc_law_did.nd AF.g_CableError (fun pn xe E1 po px => pss_one (ps_if (pt_cmpR (op_eqK (K := K) rfl hu) (pvL 2) (pe_str) (nomark _)) (pss_one (ps_setL (i := 6) sc_law_did.nd (pe_methX M_Editions_strike px (hr.mono (by decide)) (pvL 0) (pa_c (pvL 3) (pa_c (pvL 4) (pa_nil)))))) (pss_one (ps_if (pt_cmpR op_isX (pvL 5) (pe_non) (nomark _)) (pss_one (ps_setL (i := 6) sc_law_did.nd (pe_methD D_Editions_put px (hr.mono (by decide)) (pvL 0) (pa_c (pvL 3) (pa_c (pvL 4) (pa_nil)))))) (pss_one (ps_setL (i := 6) sc_law_did.nd (pe_methX M_Editions_put px (hr.mono (by decide)) (pvL 0) (pa_c (pvL 3) (pa_c (pvL 4) (pa_c (pvL 5) (pa_nil))))))))))) (fun _ => pss_cons (ps_setL (i := 8) sc_law_did.nd (pe_lstX (pa_c (pe_callBG (call_isiGK (K := K) rfl) T.isinstance bt_isinstance (pa_c (pvL 7) (pa_c (pe_globR AF.g_NoDay) (pa_nil)))) (pa_c (pe_callBG (call_isiGK (K := K) rfl) T.isinstance bt_isinstance (pa_c (pvL 7) (pa_c (pe_globR AF.g_NoEntry) (pa_nil)))) (pa_c (pe_callBG (call_isiGK (K := K) rfl) T.isinstance bt_isinstance (pa_c (pvL 7) (pa_c (pe_globR AF.g_Twice) (pa_nil)))) (pa_c (pe_callBG (call_isiGK (K := K) rfl) T.isinstance bt_isinstance (pa_c (pvL 7) (pa_c (pe_globR AF.g_NoNumber) (pa_nil)))) (pa_nil))))))) (pss_cons (ps_setL (i := 8) sc_law_did.nd (pe_op op_addX (pvL 8) (pe_lstX (pa_c (pe_callBG (call_isiGK (K := K) rfl) T.isinstance bt_isinstance (pa_c (pvL 7) (pa_c (pe_globR AF.g_TooMany) (pa_nil)))) (pa_c (pe_callBG (call_isiGK (K := K) rfl) T.isinstance bt_isinstance (pa_c (pvL 7) (pa_c (pe_tyG T.ValueError bt_ValueError) (pa_nil)))) (pa_nil)))))) (pss_one (ps_forH PassesOwn.never (pi_range1GH T.range (pa_c (pe_int) (pa_nil))) (pg_nameC (i := 9) sc_law_did.nd) (pss_one (ps_if (pt_cmpR (op_eqK (K := K) rfl hu) (pvL 8) (pe_lcH ["_law_j"] ⟨rfl, by decide +kernel, rfl, by decide +kernel⟩ (.cons (j := 9) rfl (.inl (by kernel_rfl)) (.nil)) (by decide +kernel) (pi_range1GH T.range (pa_c (pe_int) (pa_nil))) (fun _ _ _ _ => pg_nameL (i := 0) (show (["_law_j", "_law_k"] : List Str).Nodup from by decide +kernel)) (fun _ _ _ _ => pif_nil) (fun _ _ _ _ => pe_or (pe_cmpR (op_eqK (K := K) rfl hu) (pvL 0) (pvC 1) (nomark _)) (pe_one (pe_cmpR (op_eqK (K := K) rfl hu) (pvL 0) (pe_int) (nomark _))))) (nomark _)) (pss_one (ps_setL (i := 6) sc_law_did.nd (pe_ix (ix_K (K := K) rfl) (pe_lstX (pa_c (pe_str) (pa_c (pe_str) (pa_c (pe_str) (pa_c (pe_str) (pa_c (pe_str) (pa_nil))))))) (pvC 9) (fun _ _ => rfl)))) (pss_nil)))))))) (pss_one (ps_ret (pvL 6))))), ?_⟩
    have big : ∀ {u : Nat}, u ≤ 1000 → u ≤ sizeLine := fun hu => Nat.le_of_lt (small_line (by omega))
    refine seq_go fun nn hN => ?_
    and_intros
    refine ⟨_, .inr (.of hq), rfl, ?_⟩
    and_intros
    rw [hN]
    clear hN nn
    refine seq_go fun nn hN => ?_
    and_intros
    rw [hN]
    clear hN nn
    refine seq_go fun nn hN => ?_
    refine tryE_go fun th hTh => ?_
    rw [ap_tryE]
    and_intros
    have eC := err_of AF.err (c := Ad.NoNumber) (List.mem_of_getElem? (i := 1) rfl)
    have hand : ∀ (H1 H2 : Hp) (ea : Addr), (∀ H', Same H1 H' → Q (.str ("NoNumber" : Str)) H') → Same H1 H2 → H2 ea = some (excO ea (.ref Ad.NoNumber) none) → th ea { nx := fun σ H => nn { nx := fun x H' => Q V.non H', rt := Q } (List.set σ 7 none) H, rt := Q } [some (V.ref ed), some (V.ref q), some (V.str srt), some (V.int day), some (V.ref t), some y, some (V.str (Str.ofString "none")), some (V.ref ea), none, none] H2 := fun H1 H2 ea kk s2 h2 => by
      rw [hTh]
      clear hTh th k
      have kd : ∀ {j : Nat} {d : Addr}, Ad.errs[j]? = some d → PySem.W.kitOne K (.ref Ad.NoNumber) (.ref d) = some (decide (1 = j)) := fun {j d} hd => by rw [eC.kd d (List.mem_of_getElem? hd), nd_at AF.nd (i := 1) rfl hd]
      have tX : ∀ {H'}, Same H2 H' → TyX K H' (.ref ea) (.ref Ad.NoNumber) := fun s => .inr ⟨ea, _, rfl, rfl, s _ _ h2, eC.ex⟩
      have r0 := Same.refl H2
      refine seq_go fun n2 hM => ?_
      and_intros
      refine ⟨_, _, tX r0, .inl (kd (j := 6) rfl), _, _, tX r0, .inl (kd (j := 3) rfl), _, _, tX r0, .inl (kd (j := 4) rfl), _, _, tX r0, .inl (kd (j := 1) rfl), big (by decide), fun p3 H3 hp3 s3 h3 => ?_⟩
      rw [hM]
      clear hM n2
      refine seq_go fun n2 hM => ?_
      and_intros
      refine ⟨_, _, tX s3, .inl (kd (j := 5) rfl), ?_⟩
      and_intros
      refine ⟨_, _, tX s3, eC.ve, big (by decide), fun p4 H4 hp4 s4 h4 => ⟨_, _, s4 _ _ h3, h4, big (by simp), fun p5 H5 hp5 s5 h5 => ?_⟩⟩
      have h5' : H5 p5 = some (.lst [V.bl false, V.bl false, V.bl false, V.bl true, V.bl false, V.bl true]) := h5
      have s25 := s3.trans (s4.trans s5)
      clear h5 h4 h3
      rw [hM]
      clear hM n2
      and_intros
      have hin : ∀ {G : Hp}, Same H5 G → HandIn (some (.ref ea)) G := fun t => handIn_exc ((s25.trans t) _ _ h2)
      refine ⟨by decide, by decide, for_rngH (fun i σ G => (∃ o, σ = [some (V.ref ed), some (V.ref q), some (V.str srt), some (V.int day), some (V.ref t), some y, some (V.str (if i ≤ 3 then Str.ofString "none" else Str.ofString "NoNumber")), some (V.ref ea), some (V.ref p5), o]) ∧ Same H5 G) ⟨⟨_, rfl⟩, Same.refl _⟩ (fun σ G ⟨_, tG⟩ => hin tG) ?_ ?_⟩
      · rintro i σ G hi ⟨⟨o, rfl⟩, tG⟩ N hNx
        rw [ap_gname, Int.zero_add]
        and_intros
        refine ⟨by decide, by decide, lc_M (xs := List.range 6) (fun k : Nat => V.int (0 + (k : Int))) (fun x y e => by have := V.int.inj e; omega) (seq_rangeH (n := 6) (hin tG)) (by rw [List.length_range]; exact small_line (by decide)) (fun k : Nat => V.bl (decide (k = i) || decide (k = 5))) ?_ ?_⟩
        · intro j hj G1 t1 R hR
          and_intros
          have hR1 := hR G1 (Same.refl _)
          by_cases hji : j = i
          · rw [decide_eq_true (show 0 + (j : Int) = i by omega), if_pos rfl]
            rw [decide_eq_true hji, Bool.true_or] at hR1
            exact hR1
          · rw [decide_eq_false (show ¬ 0 + (j : Int) = i by omega), if_neg (by decide), show decide (0 + (j : Int) = 5) = decide (j = 5) from decide_eq_decide.mpr (by omega)]
            rw [decide_eq_false hji, Bool.false_or] at hR1
            exact hR1
        intro D G1 hD t1 g1
        and_intros
        have g5 := (tG.trans t1) _ _ h5'
        have tG1 := tG.trans t1
        have hi5 : i < 5 := hi
        rcases (show i = 0 ∨ i = 1 ∨ i = 2 ∨ i = 3 ∨ i = 4 by omega) with rfl | rfl | rfl | rfl | rfl
        · refine ⟨_, _, .of g5, .of g1, rfl, rfl, ?_⟩
          rw [if_neg (by decide)]
          exact hNx _ _ ⟨⟨_, rfl⟩, tG1⟩
        · refine ⟨_, _, .of g5, .of g1, rfl, rfl, ?_⟩
          rw [if_neg (by decide)]
          exact hNx _ _ ⟨⟨_, rfl⟩, tG1⟩
        · refine ⟨_, _, .of g5, .of g1, rfl, rfl, ?_⟩
          rw [if_neg (by decide)]
          exact hNx _ _ ⟨⟨_, rfl⟩, tG1⟩
        · refine ⟨_, _, .of g5, .of g1, rfl, rfl, ?_⟩
          rw [if_pos (by decide)]
          exact ⟨big (by decide), fun p6 G6 _ t6 g6 => ⟨_, _, .l g6, atI_nat (j := 3) rfl, hNx _ _ ⟨⟨_, rfl⟩, tG1.trans t6⟩⟩⟩
        · refine ⟨_, _, .of g5, .of g1, rfl, rfl, ?_⟩
          rw [if_neg (by decide)]
          exact hNx _ _ ⟨⟨_, rfl⟩, tG1⟩
      rintro σ G ⟨⟨o, rfl⟩, tG⟩
      show nn _ _ _
      rw [hN]
      and_intros
      exact kk G (s2.trans (s25.trans tG))
    rcases k with ⟨rfl, k⟩ | ⟨rfl, hy, k⟩
    · rw [if_pos (by decide)]
      refine ⟨dx, fs, he, hfs, strike_mono k fun x G hx => ?_⟩
      rw [hN]
      and_intros
      exact hx
    rw [if_neg (by decide)]
    rcases hy with rfl | ⟨i, rfl⟩
    · and_intros
      refine ⟨dx, fs, he, hfp, put_mono k (fun x G hx => ?_) fun c d G hE => ?_⟩
      · rw [hN]
        and_intros
        exact hx
      · obtain ⟨rfl, rfl, kk⟩ := hE
        exact ⟨eC.em, fun ea H2 _ s2 h2 => hand G H2 ea kk s2 h2⟩
    · and_intros
      refine ⟨dx, fs, he, hfp, put_mono k (fun x G hx => ?_) fun c d G hE => ?_⟩
      · rw [hN]
        and_intros
        exact hx
      · obtain ⟨rfl, rfl, kk⟩ := hE
        exact ⟨eC.em, fun ea H2 _ s2 h2 => hand G H2 ea kk s2 h2⟩
abbrev lk0 : Lk := fun _ => none
theorem txs_inj {x y : List Nat} : (tx x = tx y) = (x = y) := propext ⟨fun h => by have := congrArg (fun z : Str => z.cps.toList) h; rwa [tx_cps, tx_cps] at this, fun h => by rw [h]⟩
theorem pool_nd {a b : Nat} (hab : a ≠ b) (a1 : 97 ≤ a) (b1 : 97 ≤ b) : (poolK a b).Nodup := by
  have hba : b ≠ a := hab.symm
  have a32 : a ≠ 32 := by omega
  have b32 : b ≠ 32 := by omega
  have a32' : 32 ≠ a := by omega
  have b32' : 32 ≠ b := by omega
  have e1 : (("part" : Str) = ("phrase" : Str)) = False := by decide
  have e2 : (("phrase" : Str) = ("part" : Str)) = False := by decide
  have e3 : (("end" : Str) = ("phrase" : Str)) = False := by decide
  unfold poolK
  simp [txs_inj, hab, hba, a32, b32, a32', b32', e1, e2, e3]
theorem let_all {l : List Nat} (h1 : 1 ≤ l.length) (h2 : l.length ≤ 6) (h : ∀ c ∈ l, 97 ≤ c ∧ c < 123) : areLet 6 l = true := by
  unfold areLet
  rw [decide_eq_true h1, decide_eq_true h2, Bool.true_and, Bool.true_and, List.all_eq_true]
  exact fun c hc => decide_eq_true (h c hc)
theorem en_endQ : EnOk [.inr ("end" : Str)] := ⟨rfl, by decide, fun z hz => by
  have : V.str z = V.str ("end" : Str) := List.mem_singleton.mp hz
  cases this; decide⟩
theorem en_partQ {l : List Nat} (h1 : 1 ≤ l.length) (h2 : l.length ≤ 6) (h : ∀ c ∈ l, 97 ≤ c ∧ c < 123) : EnOk [.inr ("part" : Str), .inr (tx l)] := ⟨by
  show areLet 6 (tx l).cps.toList = true
  rw [tx_cps]; exact let_all h1 h2 h, Nat.le_refl 2, fun z hz => by
  have hz' : V.str z ∈ [V.str ("part" : Str), V.str (tx l)] := hz
  rcases List.mem_cons.mp hz' with e | e
  · cases e; decide
  · have e2 : V.str z = V.str (tx l) := List.mem_singleton.mp e
    cases e2
    rw [tx_len]; omega⟩
theorem en_phrQ {ws : List (List Nat)} (h1 : 1 ≤ ws.length) (h2 : ws.length ≤ 6) (h : ∀ w ∈ ws, 1 ≤ w.length ∧ w.length ≤ 20 ∧ ∀ c ∈ w, 97 ≤ c ∧ c < 123) (h4 : (Mk.joinL 32 ws).length ≤ 1000) : EnOk [.inr ("phrase" : Str), .inr (tx (Mk.joinL 32 ws))] := ⟨by
  show areWds 6 (tx (Mk.joinL 32 ws)).cps.toList = true
  rw [tx_cps]; exact areWds_of h1 h2 h, Nat.le_refl 2, fun z hz => by
  have hz' : V.str z ∈ [V.str ("phrase" : Str), V.str (tx (Mk.joinL 32 ws))] := hz
  rcases List.mem_cons.mp hz' with e | e
  · cases e; decide
  · have e2 : V.str z = V.str (tx (Mk.joinL 32 ws)) := List.mem_singleton.mp e
    cases e2
    rw [tx_len]; omega⟩
theorem pool_en {a b : Nat} (a1 : 97 ≤ a) (a2 : a < 123) (b1 : 97 ≤ b) (b2 : b < 123) : ∀ key ∈ poolK a b, EnOk key := by
  have l1 : ∀ l : List Nat, (∀ c ∈ l, c = a ∨ c = b) → ∀ c ∈ l, 97 ≤ c ∧ c < 123 := fun l h c hc => by rcases h c hc with rfl | rfl <;> exact ⟨by omega, by omega⟩
  have w1 : ∀ l : List Nat, 1 ≤ l.length → l.length ≤ 20 → (∀ c ∈ l, c = a ∨ c = b) → 1 ≤ l.length ∧ l.length ≤ 20 ∧ ∀ c ∈ l, 97 ≤ c ∧ c < 123 := fun l h1 h2 h => ⟨h1, h2, l1 l h⟩
  have wa := w1 [a] (by simp) (by simp) (by simp)
  have wb := w1 [b] (by simp) (by simp) (by simp)
  have wab := w1 [a, b] (by simp) (by simp) (by simp)
  have wba := w1 [b, a] (by simp) (by simp) (by simp)
  intro key hk
  unfold poolK at hk
  simp only [List.mem_cons, List.not_mem_nil, or_false] at hk
  rcases hk with rfl | rfl | rfl | rfl | rfl | rfl | rfl | rfl | rfl | rfl | rfl | rfl | rfl | rfl
  · exact en_endQ
  · exact en_partQ (by simp) (by simp) wa.2.2
  · exact en_phrQ (ws := [[a]]) (by simp) (by simp) (by simpa using wa) (by simp [Mk.joinL])
  · exact en_partQ (by simp) (by simp) wb.2.2
  · exact en_phrQ (ws := [[a, b]]) (by simp) (by simp) (by simpa using wab) (by simp [Mk.joinL])
  · exact en_partQ (by simp) (by simp) wab.2.2
  · exact en_phrQ (ws := [[b], [a]]) (by simp) (by simp) (fun w hw => by rcases List.mem_cons.mp hw with rfl | hw; exact wb; rw [List.mem_singleton.mp hw]; exact wa) (by simp [Mk.joinL])
  · exact en_phrQ (ws := [[b]]) (by simp) (by simp) (by simpa using wb) (by simp [Mk.joinL])
  · exact en_partQ (by simp) (by simp) (l1 _ (by simp))
  · exact en_phrQ (ws := [[a], [b]]) (by simp) (by simp) (fun w hw => by rcases List.mem_cons.mp hw with rfl | hw; exact wa; rw [List.mem_singleton.mp hw]; exact wb) (by simp [Mk.joinL])
  · exact en_partQ (by simp) (by simp) wba.2.2
  · exact en_phrQ (ws := [[a, b], [a]]) (by simp) (by simp) (fun w hw => by rcases List.mem_cons.mp hw with rfl | hw; exact wab; rw [List.mem_singleton.mp hw]; exact wa) (by simp [Mk.joinL])
  · exact en_phrQ (ws := [[b, a]]) (by simp) (by simp) (by simpa using wba) (by simp [Mk.joinL])
  · exact en_phrQ (ws := [[a], [a, b], [b]]) (by simp) (by simp) (fun w hw => by rcases List.mem_cons.mp hw with rfl | hw; exact wa; rcases List.mem_cons.mp hw with rfl | hw; exact wab; rw [List.mem_singleton.mp hw]; exact wb) (by simp [Mk.joinL])
abbrev pk (a b i : Nat) : List Key := (poolK a b).getD i []
def esN (ts : List Addr) (a b n : Nat) : List Ben := (List.range n).map fun i : Nat => (⟨(i : Int), pk a b i, ts.getD i 0⟩ : Ben)
theorem EdAt.pastL {Ad : Ads} {H H' : Hp} {ed b ca dn de cl sd M : Addr} {es : List Ben} {lk : Lk} {day : Int} {m : Nat} {xs : List V} (h : EdAt Ad H ed b ca dn de cl sd es lk day m) (hM : H M = some (.lst xs)) (nc : M ≠ cl) (k : ∀ c o, c ≠ M → H c = some o → H' c = some o) : EdAt Ad H' ed b ca dn de cl sd es lk day m := by
  obtain ⟨⟨dx, h1⟩, ⟨⟨bx, h2⟩, h3, h4, h5, h6, h7⟩, ⟨cs, h8, h9⟩, ⟨kvs, h10, h11, h12⟩, h13⟩ := h
  have ne : ∀ {c : Addr} {o : HO}, H c = some o → (∀ xs, o ≠ .lst xs) → c ≠ M := fun {c o} e ho z => by rw [z, hM] at e; cases e; exact ho _ rfl
  exact ⟨⟨dx, k _ _ (ne h1 fun _ z => by cases z) h1⟩, ⟨⟨bx, k _ _ (ne h2 fun _ z => by cases z) h2⟩, k _ _ (ne h3 fun _ z => by cases z) h3, k _ _ (ne h4 fun _ z => by cases z) h4, fun e he => k _ _ (ne (h5 e he) fun _ z => by cases z) (h5 e he), h6, h7⟩, ⟨cs, k _ _ nc.symm h8, h9⟩, ⟨kvs, k _ _ (ne h10 fun _ z => by cases z) h10, h11.past fun c xs e => k _ _ (ne e fun _ z => by cases z) e, h12⟩, h13⟩
theorem pool_keep {H H' : Hp} {us : List Addr} {ls : List (List Key)} (s : Same H H') (h : Paired (fun (t : Addr) (key : List Key) => H t = some (.tup (key.map kV))) us ls) : Paired (fun (t : Addr) (key : List Key) => H' t = some (.tup (key.map kV))) us ls := by
  induction h with
  | nil => exact .nil
  | cons f _ ih => exact .cons (s _ _ f) ih
def sp_law_filled (Ad : Ads) : Sp := fun vs H Q _ => ∃ (H0 : Hp) (ed b ca dn de cl sd D : Addr) (ts : List Addr) (al : List Nat) (ws : List Int) (r mn day : Int) (few x y : Nat), vs = [.ref ed, .ref D, .int mn, .int few, .int day] ∧ Same H0 H ∧ H0 ed = none ∧ H0 dn = none ∧ H0 de = none ∧ H0 cl = none ∧ CodeAt Ad H0 ca al ws r ∧ CodeOk al ws r ∧ H0 Ad.tb = some (tabO lamQ) ∧ H0 Ad.tb1 = some (tabO lamQ1) ∧
  H0 D = some (.lst (ts.map V.ref)) ∧ Paired (fun (t : Addr) (key : List Key) => H0 t = some (.tup (key.map kV))) ts (poolK x y) ∧ (poolK x y).Nodup ∧ (∀ key ∈ poolK x y, EnOk key) ∧ 1 ≤ few ∧ few ≤ 7 ∧ 0 ≤ day ∧ day ≤ 1000000 ∧ EdAt Ad H ed b ca dn de cl sd [] lk0 0 0 ∧
  ∀ H', Same H0 H' → EdAt Ad H' ed b ca dn de cl sd (esN ts x y few) lk0 day few → Q (.bl true) H'
theorem sc_law_filled : FnScope ["_law_editions", "_law_pool_here", "_law_many_here", "_law_few", "_law_day", "_law_told_ones", "_law_k"] ["_law_editions", "_law_pool_here", "_law_many_here", "_law_few", "_law_day"] (defScope s_law_filled) := ⟨rfl, rfl, rfl, by decide +kernel, rfl, by decide +kernel, by decide +kernel⟩
theorem ok_law_filled {f : Addr} {fd : FuncData} (F : Fun K "_law_filled" "_law_filled" s_law_filled f fd) (T : Bl mg) (AF : AdF K mg Ad) (D_Editions_put : MtdD P w K mg base (CX1 P w) Ad.Editions "put" 7 ["self", "day", "entry", "number"] (sp_Editions_put Ad)) : FnOk P w K mg base (CX1 P w) 8 f fd ["_law_editions", "_law_pool_here", "_law_many_here", "_law_few", "_law_day"] (sp_law_filled Ad) := by
  refine F.okX (k := 7) sc_law_filled (fun vs H Q E h => ?_) (fun cdv A outer s H vs Q E hr h => ?_)
  · obtain ⟨H0, ed, b, ca, dn, de, cl, sd, D, ts, al, ws, r, mn, day, few, x, y, rfl, _⟩ := h
    rfl
  · obtain ⟨H0, ed, b, ca, dn, de, cl, sd, D, ts, al, ws, r, mn, day, few, x, y, rfl, s0, fe, fn, fd', fc, C, ok, Tb, Tb1, hD, hts, nd, en, f1, f7, d0, d1, E0, k⟩ := h
    have hu := hr.units0
    have hu1 := hu_of hr
    refine ⟨_, pss_cons (ps_setL (i := 5) sc_law_filled.nd (pe_lstX (pa_nil))) (pss_cons (ps_for PassesOwn.leaving rfl (pi_range1G T.range (pa_c (pvL 3) (pa_nil))) (pg_nameL (i := 6) sc_law_filled.nd) (pss_one (ps_expr (pe_bmG (K := K) rfl PySem.F.plainAttrs_list PySem.F.slot_list_append PySem.F.type_list_append mt_append (pvL 5) (pa_c (pe_methD D_Editions_put pass_def (hr.mono (by decide)) (pvL 0) (pa_c (pvL 4) (pa_c (pe_ix (ix_K (K := K) rfl) (pvL 1) (pvL 6) (fun _ _ => rfl)) (pa_nil)))) (pa_nil)))))) (pss_one (ps_ret (pe_cmpR (op_eqK (K := K) rfl hu) (pvL 5) (pe_callTyG (call_listK (K := K) rfl rfl) T.list bt_list (pa_c (pe_callTyG call_rngX T.range bt_range (pa_c (pvL 3) (pa_nil))) (pa_nil))) (nomark _))))), ?_⟩
    have big : ∀ {u : Nat}, u ≤ 1000 → u ≤ sizeLine := fun hu => Nat.le_of_lt (small_line (by omega))
    refine seq_go fun nn hN => ?_
    and_intros
    refine ⟨Nat.zero_le _, fun M G1 hM t1 g1 => ?_⟩
    rw [hN]
    clear hN nn
    refine seq_go fun nn hN => ?_
    and_intros
    have a3 := ok.a3
    have w3 := ok.w3
    have lt14 : ts.length = 14 := Paired.length hts
    have hpos : (9 : Int) ≤ ManyI al ws := by
      have h : 9 ≤ al.length ^ (ws.length - 1) := Nat.le_trans (Nat.le_trans (show 9 ≤ 3 ^ 2 by decide) (Nat.pow_le_pow_right (by omega) (by omega))) (Nat.pow_le_pow_left a3 _)
      show (9 : Int) ≤ (al.length : Int) ^ (ws.length - 1)
      rw [← Int.natCast_pow]
      omega
    obtain ⟨dx, he⟩ := E0.eF
    obtain ⟨cs, hcl, _⟩ := E0.cF
    have nMe : M ≠ ed := fun z => by rw [z, he] at hM; cases hM
    have nMn : M ≠ dn := fun z => by rw [z, E0.bF.hn] at hM; cases hM
    have nMd : M ≠ de := fun z => by rw [z, E0.bF.he] at hM; cases hM
    have nMc : M ≠ cl := fun z => by rw [z, hcl] at hM; cases hM
    have fM : H0 M = none := s0.free hM
    refine ⟨by omega, by omega, for_rngO (fun i σ G => (∃ o, σ = [some (V.ref ed), some (V.ref D), some (V.int mn), some (V.int few), some (V.int day), some (V.ref M), o]) ∧ Same H0 G ∧ EdAt Ad G ed b ca dn de cl sd (esN ts x y i) lk0 (if i = 0 then 0 else day) i ∧ G M = some (.lst ((List.range i).map fun j : Nat => V.int j))) ⟨⟨_, rfl⟩, s0.trans t1, E0.same t1, g1⟩ ?_ ?_⟩
    · rintro i σ G hi ⟨⟨o, rfl⟩, sG, EG, gM⟩ N hNx
      clear hN
      obtain ⟨t, ht⟩ : ∃ t, ts[i]? = some t := ⟨_, List.getElem?_eq_getElem (by omega)⟩
      obtain ⟨key, hk, hkt⟩ := paired_at hts ht
      have ek : pk x y i = key := by show (poolK x y).getD i [] = key; rw [List.getD_eq_getElem?_getD, hk]; rfl
      have et : ts.getD i 0 = t := by rw [List.getD_eq_getElem?_getD, ht]; rfl
      have kno : key ∉ (esN ts x y i).map (·.key) := fun h => by
        unfold esN at h
        rw [List.map_map] at h
        obtain ⟨j, hj, e⟩ := List.mem_map.mp h
        have hji := List.mem_range.mp hj
        have hlp : (poolK x y).length = 14 := rfl
        have ej : (poolK x y)[j]? = some key := by
          have : (poolK x y).getD j [] = key := e
          rw [List.getD_eq_getElem?_getD, List.getElem?_eq_getElem (by omega)] at this
          rw [List.getElem?_eq_getElem (by omega)]
          exact congrArg some this
        have := (List.getElem?_inj (i := j) (j := i) (by omega) nd).mp (ej.trans hk.symm)
        omega
      have enum : (esN ts x y i).map (·.num) = (List.range i).map fun j : Nat => (j : Int) := by unfold esN; rw [List.map_map]; rfl
      have Lb : LeastB ((esN ts x y i).map (·.num)) (barE lk0 day key) i := by
        rw [enum]
        refine ⟨by omega, fun h => ?_, rfl, fun m m0 m1 => .inl (List.mem_map.mpr ⟨m.toNat, List.mem_range.mpr (by omega), by omega⟩)⟩
        obtain ⟨j, hj, e⟩ := List.mem_map.mp h
        have := List.mem_range.mp hj
        omega
      have les : (esN ts x y i).length = i := by unfold esN; rw [List.length_map, List.length_range]
      obtain ⟨dxi, hei⟩ := EG.eF
      rw [ap_gname, Int.zero_add]
      and_intros
      have hDG := sG _ _ hD
      refine ⟨.inl ⟨rfl, _, .of gM⟩, dxi, _, hei, rfl, _, .ref t, .l hDG, atI_nat (by rw [List.getElem?_map, ht]; rfl), ?_⟩
      refine ⟨ed, b, ca, dn, de, cl, sd, t, esN ts x y i, lk0, (if i = 0 then 0 else day), day, i, i, al, ws, r, key, .non, rfl, EG, C.same sG, ok, sG _ _ Tb, sG _ _ Tb1, sG _ _ hkt, en key (List.mem_of_getElem? hk), by omega, by omega, d0, by omega, .inr ⟨by split <;> omega, .inr (.inr (.inr ⟨kno, .inr ⟨rfl, Lb⟩, by omega, fun G2 k2 E2 => ?_⟩))⟩⟩
      have s2 : Same H0 G2 := fun c o e => k2 c o (fun z => by rw [z, fe] at e; cases e) (fun z => by rw [z, fn] at e; cases e) (fun z => by rw [z, fd'] at e; cases e) (fun z => by rw [z, fc] at e; cases e) (sG _ _ e)
      have gM2 := k2 M _ nMe nMn nMd nMc gM
      refine ⟨M, _, _, rfl, rfl, gM2, by rw [List.length_map, List.length_range]; exact small_line (by omega), ?_⟩
      have k3 : ∀ c o, c ≠ M → G2 c = some o → upd G2 M (.lst ((List.range i).map (fun j : Nat => V.int j) ++ [V.int i])) c = some o := fun c o hc e => by rw [upd_ne hc]; exact e
      have g3 : upd G2 M (.lst ((List.range i).map (fun j : Nat => V.int j) ++ [V.int i])) M = some (.lst ((List.range (i + 1)).map fun j : Nat => V.int j)) := by rw [upd_same, List.range_succ, List.map_append]; rfl
      generalize upd G2 M (.lst ((List.range i).map (fun j : Nat => V.int j) ++ [V.int i])) = G3 at k3 g3
      refine hNx _ _ ⟨⟨_, rfl⟩, fun c o e => k3 c o (fun z => by rw [z, fM] at e; cases e) (s2 _ _ e), ?_, g3⟩
      have es1 : esN ts x y (i + 1) = esN ts x y i ++ [⟨(i : Int), key, t⟩] := by
        unfold esN
        rw [List.range_succ, List.map_append]
        show _ ++ [(⟨(i : Int), pk x y i, ts.getD i 0⟩ : Ben)] = _
        rw [ek, et]
      rw [es1, if_neg (by omega)]
      exact E2.pastL gM2 nMc k3
    rintro σ G ⟨⟨o, rfl⟩, sG, EG, gM⟩
    show nn _ _ _
    rw [hN]
    clear hN nn
    rw [if_neg (by omega)] at EG
    and_intros
    intro pr G1' hpr t1' g1'
    refine ⟨_, .inr ⟨_, _, g1', ⟨by decide, by decide, by omega, by omega⟩, by omega, rfl⟩, fun pl G2' hpl t2' g2' => ?_⟩
    have er : rngV 0 ((few : Int) - 0).toNat = (Mk.ofN few).map V.int := by
      rw [show ((few : Int) - 0).toNat = few from by omega]
      unfold rngV Mk.ofN
      rw [List.map_map]
      refine List.map_congr_left fun j _ => ?_
      show V.int (0 + (j : Int)) = V.int (j : Int)
      rw [Int.zero_add]
    have el : (List.range few).map (fun j : Nat => V.int (j : Int)) = (Mk.ofN few).map V.int := by unfold Mk.ofN; rw [List.map_map]; rfl
    rw [er] at g2'
    rw [el] at gM
    have fl : ((Mk.ofN few).map V.int).all flatV = true := List.all_eq_true.mpr fun v hv => by obtain ⟨w, _, rfl⟩ := List.mem_map.mp hv; rfl
    refine ⟨_, _, .of ((t1'.trans t2') _ _ gM), .of g2', fl, fl, ?_⟩
    rw [eqVs_ints, decide_eq_true rfl]
    exact k G2' (sG.trans (t1'.trans t2')) (EG.same (t1'.trans t2'))
def sp_law_fresh (Ad : Ads) : Sp := fun vs H Q _ => ∃ (p q D : Addr) (ts : List Addr) (al : List Nat) (ws : List Int) (r mn day : Int) (few x y : Nat), vs = [.ref p, .ref D, .int mn, .int few, .int day] ∧ Parts H p q al ws r ∧ CodeOk al ws r ∧ H Ad.tb = some (tabO lamQ) ∧ H Ad.tb1 = some (tabO lamQ1) ∧
  H D = some (.lst (ts.map V.ref)) ∧ Paired (fun (t : Addr) (key : List Key) => H t = some (.tup (key.map kV))) ts (poolK x y) ∧ (poolK x y).Nodup ∧ (∀ key ∈ poolK x y, EnOk key) ∧ 1 ≤ few ∧ few ≤ 7 ∧ 0 ≤ day ∧ day ≤ 1000000 ∧
  ∀ H0 ed b ca dn de cl sd H', Same H H0 → Same H0 H' → H0 ed = none → H0 dn = none → H0 de = none → H0 cl = none → H0 sd = none → CodeAt Ad H0 ca al ws r → EdAt Ad H' ed b ca dn de cl sd (esN ts x y few) lk0 day few → Q (.ref ed) H'
theorem sc_law_fresh : FnScope ["_law_parts", "_law_pool_here", "_law_many_here", "_law_few", "_law_day", "_law_editions"] ["_law_parts", "_law_pool_here", "_law_many_here", "_law_few", "_law_day"] (defScope s_law_fresh) := ⟨rfl, rfl, rfl, by decide +kernel, rfl, by decide +kernel, by decide +kernel⟩
theorem ok_law_fresh {f : Addr} {fd : FuncData} (F : Fun K "_law_fresh" "_law_fresh" s_law_fresh f fd) (T : Bl mg) (AF : AdF K mg Ad) (C_law_filled : Fnc P w K mg base (CX1 P w) 8 "_law_filled" ["_law_editions", "_law_pool_here", "_law_many_here", "_law_few", "_law_day"] (sp_law_filled Ad)) (K_Editions : Mak P w K mg base (CX1 P w) Ad.Editions "Editions" 3 ["self", "code"] (sp_Editions_init Ad)) (K_Code : Mak P w K mg base (CX1 P w) Ad.Code "Code" 4 ["self", "alphabet", "weights", "rest"] (sp_Code_init Ad)) : FnOk P w K mg base (CX1 P w) 9 f fd ["_law_parts", "_law_pool_here", "_law_many_here", "_law_few", "_law_day"] (sp_law_fresh Ad) := by
  refine F.okX (k := 8) sc_law_fresh (fun vs H Q E h => ?_) (fun cdv A outer s H vs Q E hr h => ?_)
  · obtain ⟨p, q, D, ts, al, ws, r, mn, day, few, x, y, rfl, _⟩ := h
    rfl
  · obtain ⟨p, q, D, ts, al, ws, r, mn, day, few, x, y, rfl, Pt, ok, Tb, Tb1, hD, hts, nd, en, f1, f7, d0, d1, k⟩ := h
    have hu := hr.units0
    have hu1 := hu_of hr
    refine ⟨_, pss_cons (ps_setL (i := 5) sc_law_fresh.nd (pe_makeX K_Editions pass_def (hr.mono (by decide)) (pa_c (pe_makeX K_Code pass_def (hr.mono (by decide)) (pa_c (pe_ix (ix_K (K := K) rfl) (pvL 0) (pe_int) (fun _ _ => rfl)) (pa_c (pe_callTyG (call_listK (K := K) rfl rfl) T.list bt_list (pa_c (pe_ix (ix_K (K := K) rfl) (pvL 0) (pe_int) (fun _ _ => rfl)) (pa_nil))) (pa_c (pe_ix (ix_K (K := K) rfl) (pvL 0) (pe_int) (fun _ _ => rfl)) (pa_nil))))) (pa_nil)))) (pss_cons (ps_if (pt_not (pt_val (pe_callG C_law_filled pass_def (hr.mono (by decide)) (pa_c (pvL 5) (pa_c (pvL 1) (pa_c (pvL 2) (pa_c (pvL 3) (pa_c (pvL 4) (pa_nil))))))))) (pss_one (ps_ret (pe_non))) (pss_nil)) (pss_one (ps_ret (pvL 5)))), ?_⟩
    have big : ∀ {u : Nat}, u ≤ 1000 → u ≤ sizeLine := fun hu => Nat.le_of_lt (small_line (by omega))
    refine seq_go fun nn hN => ?_
    and_intros
    refine ⟨_, _, .l Pt.1, atI_nat (j := 0) rfl, _, _, .l Pt.1, atI_nat (j := 1) rfl, ?_⟩
    and_intros
    refine ⟨_, .inl (.l Pt.2), fun qn H3 hqn s3 hq3 => ⟨_, _, .l (s3 _ _ Pt.1), atI_nat (j := 2) rfl, fun ca cd H4 hca hcd hcc s4 h4a h4d => ?_⟩⟩
    refine init_made h4a (s4 _ _ hq3) ok fun H5 s5 c5 => ⟨rfl, ?_⟩
    have s05 : Same H H5 := fun b o e => by
      have hb : b ≠ ca := fun e2 => by rw [← e2, s3 _ _ e] at hca; cases hca
      exact s5 b o hb (s4 _ _ (s3 _ _ e))
    clear h4a h4d s4 hca hcd hcc hq3 s3 hqn s5
    intro ed edx G1 hed hedx nedx t1 g1 g1x
    refine ⟨ed, edx, ca, rfl, g1, fun b dn de cl sd G2 fb fn fd' fc fs nns k2 h2 B2 hcl hsd => ⟨rfl, ?_⟩⟩
    have s2 : Same H5 G2 := fun c o e => k2 c o (fun z => by rw [z, hed] at e; cases e) (t1 _ _ e)
    have n5 : H5 dn = none := t1.free fn
    have d5 : H5 de = none := t1.free fd'
    have c5' : H5 cl = none := t1.free fc
    have sd5 : H5 sd = none := t1.free fs
    have E2 : EdAt Ad G2 ed b ca dn de cl sd [] lk0 0 0 := ⟨⟨edx, h2⟩, B2, ⟨_, hcl, Nat.le_refl _⟩, ⟨_, hsd, fun n => .inl ⟨rfl, rfl⟩, Nat.le_refl _⟩, nns⟩
    have hts5 := pool_keep s05 hts
    rw [hN]
    clear hN nn
    refine seq_go fun nn hN => ?_
    and_intros
    refine ⟨H5, ed, b, ca, dn, de, cl, sd, D, ts, al, ws, r, mn, day, few, x, y, rfl, s2, hed, n5, d5, c5', c5, ok, s05 _ _ Tb, s05 _ _ Tb1, s05 _ _ hD, hts5, nd, en, f1, f7, d0, d1, E2, fun G3 s3 E3 => ⟨_, rfl, ?_⟩⟩
    rw [if_neg (by decide)]
    show nn _ _ _
    rw [hN]
    clear hN nn
    and_intros
    exact k H5 ed b ca dn de cl sd G3 s05 s3 hed n5 d5 c5' sd5 c5 E3
structure EdB (Ad : Ads) (H0 H : Hp) (ed dn de cl sd ca : Addr) (al : List Nat) (ws : List Int) (r : Int) : Prop where
  s : Same H0 H
  fe : H0 ed = none
  fn : H0 dn = none
  fd : H0 de = none
  fc : H0 cl = none
  fs : H0 sd = none
  C : CodeAt Ad H0 ca al ws r
  ok : CodeOk al ws r
  Tb : H0 Ad.tb = some (tabO lamQ)
  Tb1 : H0 Ad.tb1 = some (tabO lamQ1)
theorem EdB.to {Ad : Ads} {H0 H H' : Hp} {ed dn de cl sd ca : Addr} {al : List Nat} {ws : List Int} {r : Int} (h : EdB Ad H0 H ed dn de cl sd ca al ws r) (k : ∀ c o, c ≠ ed → c ≠ dn → c ≠ de → c ≠ cl → c ≠ sd → H c = some o → H' c = some o) : EdB Ad H0 H' ed dn de cl sd ca al ws r :=
  ⟨fun c o e => k c o (fun z => by rw [z, h.fe] at e; cases e) (fun z => by rw [z, h.fn] at e; cases e) (fun z => by rw [z, h.fd] at e; cases e) (fun z => by rw [z, h.fc] at e; cases e) (fun z => by rw [z, h.fs] at e; cases e) (h.s _ _ e), h.fe, h.fn, h.fd, h.fc, h.fs, h.C, h.ok, h.Tb, h.Tb1⟩
theorem EdB.same {Ad : Ads} {H0 H H' : Hp} {ed dn de cl sd ca : Addr} {al : List Nat} {ws : List Int} {r : Int} (h : EdB Ad H0 H ed dn de cl sd ca al ws r) (t : Same H H') : EdB Ad H0 H' ed dn de cl sd ca al ws r := h.to fun c o _ _ _ _ _ e => t _ _ e
theorem many9 {al : List Nat} {ws : List Int} {r : Int} (ok : CodeOk al ws r) : (9 : Int) ≤ ManyI al ws := by
  have a3 := ok.a3
  have w3 := ok.w3
  have h : 9 ≤ al.length ^ (ws.length - 1) := Nat.le_trans (Nat.le_trans (show 9 ≤ 3 ^ 2 by decide) (Nat.pow_le_pow_right (by omega) (by omega))) (Nat.pow_le_pow_left a3 _)
  show (9 : Int) ≤ (al.length : Int) ^ (ws.length - 1)
  rw [← Int.natCast_pow]
  omega
def sp_law_kept_days (Ad : Ads) : Sp := fun vs H Q _ => ∃ (H0 : Hp) (ed b ca dn de cl sd t1 t2 : Addr) (es : List Ben) (al : List Nat) (ws : List Int) (r d num few bh : Int) (m : Nat) (k1 k2 : List Key), vs = [.ref ed, .ref t1, .ref t2, .int d, .int num, .int few, .int bh] ∧ EdB Ad H0 H ed dn de cl sd ca al ws r ∧ H0 t1 = some (.tup (k1.map kV)) ∧ H0 t2 = some (.tup (k2.map kV)) ∧ EnOk k1 ∧ EnOk k2 ∧ k1 ≠ k2 ∧
  EdAt Ad H ed b ca dn de cl sd es (fun i => if i = num then some (d, k1) else none) d m ∧ m ≤ 20 ∧ es.length ≤ 20 ∧ k1 ∉ es.map (·.key) ∧ k2 ∉ es.map (·.key) ∧ (∀ j : Int, j ∈ es.map (·.num) ↔ 0 ≤ j ∧ j < few ∧ j ≠ num) ∧ 0 ≤ num ∧ num < few ∧ few ≤ 7 ∧ 0 ≤ bh ∧ bh ≤ 30 ∧ 0 ≤ d ∧ d ≤ 1000000 ∧
  ∀ H' es' lk', EdB Ad H0 H' ed dn de cl sd ca al ws r → EdAt Ad H' ed b ca dn de cl sd es' lk' (d + bh) (m + 3) → (⟨num, k1, t1⟩ : Ben) ∈ es' → Q (.bl true) H'
theorem sc_law_kept_days : FnScope ["_law_editions", "_law_one", "_law_other", "_law_day", "_law_number", "_law_few", "_law_behind", "_law_least"] ["_law_editions", "_law_one", "_law_other", "_law_day", "_law_number", "_law_few", "_law_behind"] (defScope s_law_kept_days) := ⟨rfl, rfl, rfl, by decide +kernel, rfl, by decide +kernel, by decide +kernel⟩
theorem ok_law_kept_days {f : Addr} {fd : FuncData} (F : Fun K "_law_kept_days" "_law_kept_days" s_law_kept_days f fd) (T : Bl mg) (AF : AdF K mg Ad) (C_law_did : Fnc P w K mg base (CX1 P w) 8 "_law_did" ["_law_editions", "_law_deed"] (sp_law_did K Ad)) : FnOk P w K mg base (CX1 P w) 9 f fd ["_law_editions", "_law_one", "_law_other", "_law_day", "_law_number", "_law_few", "_law_behind"] (sp_law_kept_days Ad) := by
  refine F.okX (k := 8) sc_law_kept_days (fun vs H Q E h => ?_) (fun cdv A outer s H vs Q E hr h => ?_)
  · obtain ⟨H0, ed, b, ca, dn, de, cl, sd, t1, t2, es, al, ws, r, d, num, few, bh, m, k1, k2, rfl, _⟩ := h
    rfl
  · obtain ⟨H0, ed, b, ca, dn, de, cl, sd, t1, t2, es, al, ws, r, d, num, few, bh, m, k1, k2, rfl, F0, h1, h2, o1, o2, k12, D, m20, l20, n1, n2, hj, u0, u1, f7, b0, b1, d0, d1, k⟩ := h
    have hu := hr.units0
    have hu1 := hu_of hr
    refine ⟨_, pss_cons (ps_if (pt_cmpR (op_neK (K := K) rfl hu) (pe_callG C_law_did pass_def (hr.mono (by decide)) (pa_c (pvL 0) (pa_c (pe_tupX (pa_c (pe_str) (pa_c (pe_op op_addX (pvL 3) (pvL 6)) (pa_c (pvL 2) (pa_c (pvL 4) (pa_nil)))))) (pa_nil)))) (pe_str) (nomark _)) (pss_one (ps_ret (pe_bl))) (pss_nil)) (pss_cons (ps_setL (i := 7) sc_law_kept_days.nd (pe_callG C_law_did pass_def (hr.mono (by decide)) (pa_c (pvL 0) (pa_c (pe_tupX (pa_c (pe_str) (pa_c (pe_op op_addX (pvL 3) (pvL 6)) (pa_c (pvL 2) (pa_c (pe_non) (pa_nil)))))) (pa_nil))))) (pss_cons (ps_if (pt_cmpR (op_neK (K := K) rfl hu) (pvL 7) (pvL 5) (nomark _)) (pss_one (ps_ret (pe_bl))) (pss_nil)) (pss_cons (ps_if (pt_cmpR (op_neK (K := K) rfl hu) (pe_callG C_law_did pass_def (hr.mono (by decide)) (pa_c (pvL 0) (pa_c (pe_tupX (pa_c (pe_str) (pa_c (pe_op op_addX (pvL 3) (pvL 6)) (pa_c (pvL 2) (pa_c (pe_non) (pa_nil)))))) (pa_nil)))) (pvL 5) (nomark _)) (pss_one (ps_ret (pe_bl))) (pss_nil)) (pss_one (ps_ret (pe_cmpR (op_eqK (K := K) rfl hu) (pe_callG C_law_did pass_def (hr.mono (by decide)) (pa_c (pvL 0) (pa_c (pe_tupX (pa_c (pe_str) (pa_c (pe_op op_addX (pvL 3) (pvL 6)) (pa_c (pvL 1) (pa_c (pe_non) (pa_nil)))))) (pa_nil)))) (pvL 4) (nomark _))))))), ?_⟩
    have big : ∀ {u : Nat}, u ≤ 1000 → u ≤ sizeLine := fun hu => Nat.le_of_lt (small_line (by omega))
    have h9 := many9 F0.ok
    have ask : ∀ {G : Hp} {es : List Ben} {lk : Lk} {l0 : Int} {m : Nat}, EdAt Ad G ed b ca dn de cl sd es lk l0 m → ∃ dx fs, G ed = some (.ins Ad.Editions dx fs) ∧ fs.lookup (Str.ofString "put") = none ∧ fs.lookup (Str.ofString "strike") = none := fun D => by
      obtain ⟨dx, e⟩ := D.eF
      exact ⟨dx, _, e, rfl, rfl⟩
    refine seq_go fun nn hN => ?_
    and_intros
    refine ⟨big (by decide), fun q1 G1 _ s1 g1 => ?_⟩
    have F1 := F0.same s1
    have D1 := D.same s1
    refine ⟨ed, q1, t2, _, d + bh, .int num, rfl, g1, ask D1, .inr ⟨rfl, .inr ⟨_, rfl⟩, ?_⟩⟩
    refine ⟨ed, b, ca, dn, de, cl, sd, t2, es, _, d, d + bh, num, m, al, ws, r, k2, .int num, rfl, D1, F0.C.same F1.s, F0.ok, F1.s _ _ F0.Tb, F1.s _ _ F0.Tb1, F1.s _ _ h2, o2, by omega, by omega, by omega, by omega, .inr ⟨by omega, .inr (.inl ⟨n2, rfl, u0, by omega, .inr ?_, fun G2 t2' => ⟨rfl, rfl, fun G3 t3' => ?_⟩⟩)⟩⟩
    · rw [bar_some (d := d) (k := k1) (if_pos rfl)]
      rw [decide_eq_false k12, decide_eq_true (show d + bh - d < 31 by omega)]; rfl
    and_intros
    rw [if_neg (by decide)]
    show nn _ _ _
    rw [hN]
    clear hN nn
    have s3 := s1.trans (t2'.trans t3')
    have F3 := F0.same s3
    have D3 := D.same s3
    refine seq_go fun nn hN => ?_
    and_intros
    refine ⟨big (by decide), fun q2 G4 _ s4 g4 => ?_⟩
    have F4 := F3.same s4
    have D4 := D3.same s4
    have hnum : ∀ j : Int, j ∈ es.map (·.num) → 0 ≤ j ∧ j < few ∧ j ≠ num := fun j h => (hj j).mp h
    refine ⟨ed, q2, t2, _, d + bh, .non, rfl, g4, ask D4, .inr ⟨rfl, .inl rfl, ?_⟩⟩
    refine ⟨ed, b, ca, dn, de, cl, sd, t2, es, _, d, d + bh, few, m, al, ws, r, k2, .non, rfl, D4, F0.C.same F4.s, F0.ok, F4.s _ _ F0.Tb, F4.s _ _ F0.Tb1, F4.s _ _ h2, o2, by omega, by omega, by omega, by omega, .inr ⟨by omega, .inr (.inr (.inr ⟨n2, .inr ⟨rfl, ⟨by omega, fun h => ?_, ?_, fun j j0 j1 => ?_⟩⟩, by omega, fun G5 k5 D5 => ?_⟩))⟩⟩
    · have := hnum _ h; omega
    · exact bar_none (if_neg (by omega))
    · by_cases hjn : j = num
      · refine .inr ?_
        rw [bar_some (d := d) (k := k1) (if_pos hjn)]
        rw [decide_eq_false k12, decide_eq_true (show d + bh - d < 31 by omega)]; rfl
      · exact .inl ((hj j).mpr ⟨j0, j1, hjn⟩)
    have F5 := F4.to fun c o e1 e2 e3 e4 _ e => k5 c o e1 e2 e3 e4 e
    rw [hN]
    clear hN nn
    refine seq_go fun nn hN => ?_
    and_intros
    rw [if_neg (by simp)]
    show nn _ _ _
    rw [hN]
    clear hN nn
    refine seq_go fun nn hN => ?_
    and_intros
    refine ⟨big (by decide), fun q3 G6 _ s6 g6 => ?_⟩
    have F6 := F5.same s6
    have D6 := D5.same s6
    have hin : (⟨few, k2, t2⟩ : Ben) ∈ es ++ [⟨few, k2, t2⟩] := List.mem_append_right _ (List.mem_singleton.mpr rfl)
    refine ⟨ed, q3, t2, _, d + bh, .non, rfl, g6, ask D6, .inl ⟨rfl, ?_⟩⟩
    refine ⟨ed, b, ca, dn, de, cl, sd, t2, _, _, d + bh, d + bh, m + 1, ⟨few, k2, t2⟩, rfl, D6, F6.s _ _ h2, hin, o2, by omega, by omega, by omega, Int.le_refl _, fun G7 k7 D7 => ?_⟩
    have F7 := F6.to k7
    and_intros
    rw [if_neg (by simp)]
    show nn _ _ _
    rw [hN]
    clear hN nn
    and_intros
    refine ⟨big (by decide), fun q4 G8 _ s8 g8 => ?_⟩
    have F8 := F7.same s8
    have D8 := D7.same s8
    have key3 : ∀ k, k ∈ ((es ++ [(⟨few, k2, t2⟩ : Ben)]).filter fun x => decide (x.num ≠ few)).map (·.key) → k ∈ es.map (·.key) := fun k h => by
      obtain ⟨e, he, rfl⟩ := List.mem_map.mp h
      obtain ⟨he1, he2⟩ := List.mem_filter.mp he
      rcases List.mem_append.mp he1 with h | h
      · exact List.mem_map_of_mem h
      · rw [List.mem_singleton.mp h] at he2
        exact absurd rfl (of_decide_eq_true he2)
    have num3 : ∀ j : Int, j ∈ ((es ++ [(⟨few, k2, t2⟩ : Ben)]).filter fun x => decide (x.num ≠ few)).map (·.num) ↔ 0 ≤ j ∧ j < few ∧ j ≠ num := fun j => by
      refine ⟨fun h => ?_, fun h => ?_⟩
      · obtain ⟨e, he, rfl⟩ := List.mem_map.mp h
        obtain ⟨he1, he2⟩ := List.mem_filter.mp he
        rcases List.mem_append.mp he1 with h | h
        · exact (hj _).mp (List.mem_map_of_mem h)
        · rw [List.mem_singleton.mp h] at he2
          exact absurd rfl (of_decide_eq_true he2)
      · obtain ⟨e, he, ee⟩ := List.mem_map.mp ((hj j).mpr h)
        exact List.mem_map.mpr ⟨e, List.mem_filter.mpr ⟨List.mem_append_left _ he, decide_eq_true (by rw [ee]; omega)⟩, ee⟩
    refine ⟨ed, q4, t1, _, d + bh, .non, rfl, g8, ask D8, .inr ⟨rfl, .inl rfl, ?_⟩⟩
    refine ⟨ed, b, ca, dn, de, cl, sd, t1, _, _, d + bh, d + bh, num, m + 1 + 1, al, ws, r, k1, .non, rfl, D8, F0.C.same F8.s, F0.ok, F8.s _ _ F0.Tb, F8.s _ _ F0.Tb1, F8.s _ _ h1, o1, ?_, by omega, by omega, by omega, .inr ⟨Int.le_refl _, .inr (.inr (.inr ⟨fun h => n1 (key3 _ h), .inr ⟨rfl, ⟨u0, fun h => ((num3 _).mp h).2.2 rfl, ?_, fun j j0 j1 => .inl ((num3 j).mpr ⟨j0, by omega, by omega⟩)⟩⟩, by omega, fun G9 k9 D9 => ?_⟩))⟩⟩
    · refine Nat.lt_of_le_of_lt (List.length_filter_le _ _) ?_
      rw [List.length_append]
      show es.length + 1 < 300
      omega
    · rw [bar_some (d := d) (k := k1) (by show (if num = few then _ else if num = num then _ else _) = _; rw [if_neg (by omega), if_pos rfl]), decide_eq_true rfl]
      rfl
    have F9 := F8.to fun c o e1 e2 e3 e4 _ e => k9 c o e1 e2 e3 e4 e
    and_intros
    exact k G9 _ _ F9 D9 (List.mem_append_right _ (List.mem_singleton.mpr rfl))
theorem pk_at {x y i : Nat} {key : List Key} (h : (poolK x y)[i]? = some key) : pk x y i = key := by show (poolK x y).getD i [] = key; rw [List.getD_eq_getElem?_getD, h]; rfl
theorem esN_num {ts : List Addr} {x y n : Nat} (j : Int) : j ∈ (esN ts x y n).map (·.num) ↔ 0 ≤ j ∧ j < n := by
  unfold esN
  rw [List.map_map]
  refine ⟨fun h => ?_, fun h => List.mem_map.mpr ⟨j.toNat, List.mem_range.mpr (by omega), by show ((j.toNat : Nat) : Int) = j; omega⟩⟩
  obtain ⟨i, hi, e⟩ := List.mem_map.mp h
  have := List.mem_range.mp hi
  have e' : (i : Int) = j := e
  omega
theorem esN_key {ts : List Addr} {x y n i : Nat} {key : List Key} (nd : (poolK x y).Nodup) (hn : n ≤ 8) (hi : (poolK x y)[i]? = some key) {e : Ben} (he : e ∈ esN ts x y n) (hk : e.key = key) : e.num = i := by
  unfold esN at he
  obtain ⟨j, hj, rfl⟩ := List.mem_map.mp he
  have hjn := List.mem_range.mp hj
  have hlp : (poolK x y).length = 14 := rfl
  have ej : (poolK x y)[j]? = some key := by
    have : (poolK x y).getD j [] = key := hk
    rw [List.getD_eq_getElem?_getD, List.getElem?_eq_getElem (by omega)] at this
    rw [List.getElem?_eq_getElem (by omega)]
    exact congrArg some this
  have := (List.getElem?_inj (i := j) (j := i) (by omega) nd).mp (ej.trans hi.symm)
  show ((j : Nat) : Int) = i
  omega
def sp_law (K : PySem.W.Frag) (tb tb1 : Addr) : Sp := fun vs H Q _ => ∃ (a : Addr) (ns : List Int), vs = [.ref a] ∧ SqL K H a (ns.map V.int) ∧ ns.length ≤ 63 ∧ H tb = some (tabO lamQ) ∧ H tb1 = some (tabO lamQ1) ∧ ∀ H', Q (.bl true) H'
theorem sc_law : FnScope ["_law_script", "_law_parts", "_law_many_here", "_law_pool_here", "_law_k", "_law_cell", "_law_few", "_law_day", "_law_number", "_law_one", "_law_other", "_law_editions", "_law_behind", "_law_late", "_law_told_one"] ["_law_script"] (defScope s_law) := ⟨rfl, rfl, rfl, by decide +kernel, rfl, by decide +kernel, by decide +kernel⟩
theorem ok_law {f : Addr} {fd : FuncData} (F : Fun K "law" "law" s_law f fd) (T : Bl mg) (AF : AdF K mg Ad) (C_law_did : Fnc P w K mg base (CX1 P w) 8 "_law_did" ["_law_editions", "_law_deed"] (sp_law_did K Ad)) (C_law_fresh : Fnc P w K mg base (CX1 P w) 9 "_law_fresh" ["_law_parts", "_law_pool_here", "_law_many_here", "_law_few", "_law_day"] (sp_law_fresh Ad)) (C_law_kept_days : Fnc P w K mg base (CX1 P w) 9 "_law_kept_days" ["_law_editions", "_law_one", "_law_other", "_law_day", "_law_number", "_law_few", "_law_behind"] (sp_law_kept_days Ad)) (C_law_mixed : Fnc P w K mg base (CX1 P w) 1 "_law_mixed" ["_law_cell"] sp_law_mixed) (C_law_cell_at : Fnc P w K mg base (CX1 P w) 1 "_law_cell_at" ["_law_script", "_law_k"] (sp_law_cell_at K)) (C_law_pool : Fnc P w K mg base (CX1 P w) 1 "_law_pool" ["_law_cell"] sp_law_pool) (C_law_many : Fnc P w K mg base (CX1 P w) 1 "_law_many" ["_law_parts"] sp_law_many) (C_law_code_parts : Fnc P w K mg base (CX1 P w) 3 "_law_code_parts" ["_law_script"] (sp_law_code_parts K)) (M_Editions_strike : Mtd P w K mg base (CX1 P w) Ad.Editions "strike" 6 ["self", "day", "entry"] (sp_Editions_strike Ad)) : FnOk P w K mg base (CX1 P w) 10 f fd ["_law_script"] (sp_law K Ad.tb Ad.tb1) := by
  refine F.okX (k := 9) sc_law (fun vs H Q E h => ?_) (fun cdv A outer s H vs Q E hr h => ?_)
  · obtain ⟨a, ns, rfl, _⟩ := h
    rfl
  · obtain ⟨a, ns, rfl, hS, hlen, Tb, Tb1, k⟩ := h
    have hu := hr.units0
    have hu1 := hu_of hr
    refine ⟨_, pss_cons (ps_setL (i := 1) sc_law.nd (pe_callG C_law_code_parts pass_def (hr.mono (by decide)) (pa_c (pvL 0) (pa_nil)))) (pss_cons (ps_setL (i := 2) sc_law.nd (pe_callG C_law_many pass_def (hr.mono (by decide)) (pa_c (pvL 1) (pa_nil)))) (pss_cons (ps_setL (i := 3) sc_law.nd (pe_callG C_law_pool pass_def (hr.mono (by decide)) (pa_c (pe_callG C_law_mixed pass_def (hr.mono (by decide)) (pa_c (pe_callG C_law_cell_at pass_def (hr.mono (by decide)) (pa_c (pvL 0) (pa_c (pe_int) (pa_nil)))) (pa_nil))) (pa_nil)))) (pss_cons (ps_for PassesOwn.leaving rfl (pi_range2G T.range (pa_c (pe_int) (pa_c (pe_callBG (call_maxX rfl) T.max bt_max (pa_c (pe_int) (pa_c (pe_callBG (call_minX rfl) T.min bt_min (pa_c (pe_int) (pa_c (pe_callBG (call_lenK (K := K) rfl) T.len bt_len (pa_c (pvL 0) (pa_nil))) (pa_nil)))) (pa_nil)))) (pa_nil)))) (pg_nameL (i := 4) sc_law.nd) (pss_cons (ps_setL (i := 5) sc_law.nd (pe_callG C_law_mixed pass_def (hr.mono (by decide)) (pa_c (pe_callG C_law_cell_at pass_def (hr.mono (by decide)) (pa_c (pvL 0) (pa_c (pvL 4) (pa_nil)))) (pa_nil)))) (pss_cons (ps_setL (i := 6) sc_law.nd (pe_op op_addX (pe_int) (pe_op op_modX (pvL 5) (pe_int)))) (pss_cons (ps_setL (i := 7) sc_law.nd (pe_op op_modX (pe_op op_fdivX (pvL 5) (pe_int)) (pe_int))) (pss_cons (ps_setL (i := 8) sc_law.nd (pe_op op_modX (pe_op op_fdivX (pvL 5) (pe_int)) (pvL 6))) (pss_cons (ps_setL (i := 9) sc_law.nd (pe_ix (ix_K (K := K) rfl) (pvL 3) (pvL 8) (fun _ _ => rfl))) (pss_cons (ps_setL (i := 10) sc_law.nd (pe_ix (ix_K (K := K) rfl) (pvL 3) (pe_op op_addX (pe_int) (pe_op op_modX (pe_op op_fdivX (pvL 5) (pe_op op_powX (pe_int) (pe_int))) (pe_int))) (fun _ _ => rfl))) (pss_cons (ps_setL (i := 11) sc_law.nd (pe_callG C_law_fresh pass_def (hr.mono (by decide)) (pa_c (pvL 1) (pa_c (pvL 3) (pa_c (pvL 2) (pa_c (pvL 6) (pa_c (pvL 7) (pa_nil)))))))) (pss_cons (ps_if ((pw_or (pt_cmpR op_isX (pvL 11) (pe_non) (nomark _)) (pw_or1 (pt_cmpR (op_neK (K := K) rfl hu) (pe_methX M_Editions_strike pass_def (hr.mono (by decide)) (pvL 11) (pa_c (pe_op op_addX (pvL 7) (pe_int)) (pa_c (pvL 9) (pa_nil)))) (pvL 8) (nomark _)))).pt) (pss_one (ps_ret (pe_bl))) (pss_nil)) (pss_cons (ps_setL (i := 12) sc_law.nd (pe_ix (ix_K (K := K) rfl) (pe_lstX (pa_c (pe_int) (pa_c (pe_int) (pa_c (pe_int) (pa_c (pe_int) (pa_c (pe_op op_modX (pe_op op_fdivX (pvL 5) (pe_op op_powX (pe_int) (pe_int))) (pe_int)) (pa_nil))))))) (pe_op op_modX (pe_op op_fdivX (pvL 5) (pe_op op_powX (pe_int) (pe_int))) (pe_int)) (fun _ _ => rfl))) (pss_cons (ps_if (pt_not (pt_val (pe_callG C_law_kept_days pass_def (hr.mono (by decide)) (pa_c (pvL 11) (pa_c (pvL 9) (pa_c (pvL 10) (pa_c (pe_op op_addX (pvL 7) (pe_int)) (pa_c (pvL 8) (pa_c (pvL 6) (pa_c (pvL 12) (pa_nil))))))))))) (pss_one (ps_ret (pe_bl))) (pss_nil)) (pss_cons (ps_if (pt_cmpR (op_neK (K := K) rfl hu) (pe_methX M_Editions_strike pass_def (hr.mono (by decide)) (pvL 11) (pa_c (pe_op op_addX (pe_op op_addX (pvL 7) (pe_int)) (pvL 12)) (pa_c (pvL 9) (pa_nil)))) (pvL 8) (nomark _)) (pss_one (ps_ret (pe_bl))) (pss_nil)) (pss_cons (ps_setL (i := 13) sc_law.nd (pe_callG C_law_fresh pass_def (hr.mono (by decide)) (pa_c (pvL 1) (pa_c (pvL 3) (pa_c (pvL 2) (pa_c (pvL 6) (pa_c (pvL 7) (pa_nil)))))))) (pss_cons (ps_if ((pw_or (pt_cmpR op_isX (pvL 13) (pe_non) (nomark _)) (pw_or1 (pt_cmpR (op_neK (K := K) rfl hu) (pe_methX M_Editions_strike pass_def (hr.mono (by decide)) (pvL 13) (pa_c (pe_op op_addX (pvL 7) (pe_int)) (pa_c (pvL 9) (pa_nil)))) (pvL 8) (nomark _)))).pt) (pss_one (ps_ret (pe_bl))) (pss_nil)) (pss_cons (ps_setL (i := 14) sc_law.nd (pe_ix (ix_K (K := K) rfl) (pe_lstX (pa_c (pe_non) (pa_c (pvL 8) (pa_nil)))) (pe_op op_modX (pe_op op_fdivX (pvL 5) (pe_op op_powX (pe_int) (pe_int))) (pe_int)) (fun _ _ => rfl))) (pss_one (ps_if (pt_cmpR (op_neK (K := K) rfl hu) (pe_callG C_law_did pass_def (hr.mono (by decide)) (pa_c (pvL 13) (pa_c (pe_tupX (pa_c (pe_str) (pa_c (pe_op op_addX (pe_op op_addX (pvL 7) (pe_int)) (pe_op op_mulS (pe_op op_modX (pe_op op_fdivX (pvL 5) (pe_op op_powX (pe_int) (pe_int))) (pe_int)) (pe_int))) (pa_c (pvL 10) (pa_c (pvL 14) (pa_nil)))))) (pa_nil)))) (pvL 8) (nomark _)) (pss_one (ps_ret (pe_bl))) (pss_nil)))))))))))))))))) (pss_one (ps_ret (pe_bl)))))), ?_⟩
    have big : ∀ {u : Nat}, u ≤ 1000 → u ≤ sizeLine := fun hu => Nat.le_of_lt (small_line (by omega))
    refine seq_go fun nn hN => ?_
    and_intros
    refine ⟨a, ns, rfl, hS, fun p q al ws r H1 s1 hP ok a9 w3 w6 => ?_⟩
    rw [hN]
    clear hN nn
    refine seq_go fun nn hN => ?_
    and_intros
    refine ⟨p, q, al, ws, r, rfl, hP, by omega, by omega, by omega, fun H2 s2 => ?_⟩
    rw [hN]
    clear hN nn
    have s02 := s1.trans s2
    refine seq_go fun nn hN => ?_
    and_intros
    refine ⟨a, ns, 1, rfl, s02.seq hS, by decide, ?_⟩
    generalize ns.getD (1 : Int).toNat 0 = c0
    refine ⟨c0, rfl, ?_⟩
    have z0 := mixP_nn c0
    generalize mixP c0 = z at z0
    refine ⟨z, rfl, z0, fun D x y H3 s3 x1 x2 y1 y2 hxy hPo => ?_⟩
    obtain ⟨ts, hD, hts⟩ := hPo
    have nd := pool_nd hxy x1 y1
    have en := pool_en x1 x2 y1 y2
    rw [hN]
    clear hN nn
    have s03 := s02.trans s3
    have P3 : Parts H3 p q al ws r := ⟨(s2.trans s3) _ _ hP.1, (s2.trans s3) _ _ hP.2⟩
    refine seq_go fun nn hN => ?_
    and_intros
    refine ⟨_, .inl (s03.seq hS), ⟨by decide, by decide, by omega, by omega⟩, ?_⟩
    have lt14 : ts.length = 14 := Paired.length hts
    refine for_rngO (fun i σ G => (∃ o4 o5 o6 o7 o8 o9 o10 o11 o12 o13 o14, σ = [some (V.ref a), some (V.ref p), some (V.int (ManyI al ws)), some (V.ref D), o4, o5, o6, o7, o8, o9, o10, o11, o12, o13, o14]) ∧ Same H3 G) ⟨⟨_, _, _, _, _, _, _, _, _, _, _, rfl⟩, Same.refl _⟩ ?_ ?_
    · rintro i σ G hi ⟨⟨o4, o5, o6, o7, o8, o9, o10, o11, o12, o13, o14, rfl⟩, sG⟩ N hNx
      clear hN
      rw [ap_gname]
      have hN : ∀ G o4 o5 o6 o7 o8 o9 o10 o11 o12 o13 o14, Same H3 G → N [some (V.ref a), some (V.ref p), some (V.int (ManyI al ws)), some (V.ref D), o4, o5, o6, o7, o8, o9, o10, o11, o12, o13, o14] G := fun G o4 o5 o6 o7 o8 o9 o10 o11 o12 o13 o14 t => hNx _ _ ⟨⟨_, _, _, _, _, _, _, _, _, _, _, rfl⟩, t⟩
      clear hNx
      refine seq_go fun n2 hM => ?_
      and_intros
      refine ⟨a, ns, 2 + (i : Int), rfl, (s03.trans sG).seq hS, by omega, ?_⟩
      generalize ns.getD (2 + (i : Int)).toNat 0 = c1
      refine ⟨c1, rfl, ?_⟩
      have v0 := mixP_nn c1
      generalize mixP c1 = v at v0
      rw [hM]
      clear hM n2
      refine seq_go fun n2 hM => ?_
      and_intros
      refine ⟨by decide, ?_⟩
      obtain ⟨few, hfew, fl, fh⟩ : ∃ few : Nat, 2 + v % 6 = (few : Int) ∧ 2 ≤ few ∧ few ≤ 7 := ⟨(2 + v % 6).toNat, by omega, by omega, by omega⟩
      rw [hfew]
      rw [hM]
      clear hM n2
      refine seq_go fun n2 hM => ?_
      and_intros
      refine ⟨by decide, by decide, ?_⟩
      have e0 : 0 ≤ v / 6 % 1000 ∧ v / 6 % 1000 < 1000 := by omega
      generalize v / 6 % 1000 = day at e0
      rw [hM]
      clear hM n2
      refine seq_go fun n2 hM => ?_
      and_intros
      have ug := Int.emod_nonneg (v / 6000) (show (few : Int) ≠ 0 by omega)
      have uh := Int.emod_lt_of_pos (v / 6000) (show (0 : Int) < few by omega)
      obtain ⟨num, hnum, nlt⟩ : ∃ num : Nat, v / 6000 % (few : Int) = (num : Int) ∧ num < few := ⟨(v / 6000 % (few : Int)).toNat, by omega, by omega⟩
      rw [hnum]
      refine ⟨⟨by decide, by decide⟩, by omega, ?_⟩
      rw [hM]
      clear hM n2 ug uh hnum hfew
      refine seq_go fun n2 hM => ?_
      and_intros
      obtain ⟨t1, ht1⟩ : ∃ t, ts[num]? = some t := ⟨_, List.getElem?_eq_getElem (by omega)⟩
      obtain ⟨k1, hk1, hkt1⟩ := paired_at hts ht1
      refine ⟨_, .ref t1, .l (sG _ _ hD), atI_nat (by rw [List.getElem?_map, ht1]; rfl), ?_⟩
      rw [hM]
      clear hM n2
      refine seq_go fun n2 hM => ?_
      and_intros
      obtain ⟨oth, hoth, ol, oh⟩ : ∃ oth : Nat, 8 + v / 10 ^ 5 % 6 = (oth : Int) ∧ 8 ≤ oth ∧ oth < 14 := ⟨(8 + v / 10 ^ 5 % 6).toNat, by omega, by omega, by omega⟩
      obtain ⟨t2, ht2⟩ : ∃ t, ts[oth]? = some t := ⟨_, List.getElem?_eq_getElem (by omega)⟩
      obtain ⟨k2, hk2, hkt2⟩ := paired_at hts ht2
      have k12 : k1 ≠ k2 := fun e => by
        have := (List.getElem?_inj (i := num) (j := oth) (by show num < 14; omega) nd).mp (hk1.trans (by rw [e]; exact hk2.symm))
        omega
      have o1 := en k1 (List.mem_of_getElem? hk1)
      have o2 := en k2 (List.mem_of_getElem? hk2)
      have hin : (⟨(num : Int), k1, t1⟩ : Ben) ∈ esN ts x y few := by
        unfold esN
        refine List.mem_map.mpr ⟨num, List.mem_range.mpr nlt, ?_⟩
        rw [pk_at hk1, List.getD_eq_getElem?_getD, ht1]
        rfl
      have nk1 : k1 ∉ ((esN ts x y few).filter fun e => decide (e.num ≠ (num : Int))).map (·.key) := fun h => by
        obtain ⟨e, he, ee⟩ := List.mem_map.mp h
        obtain ⟨he1, he2⟩ := List.mem_filter.mp he
        exact of_decide_eq_true he2 (esN_key nd (by omega) hk1 he1 ee)
      have nk2 : k2 ∉ ((esN ts x y few).filter fun e => decide (e.num ≠ (num : Int))).map (·.key) := fun h => by
        obtain ⟨e, he, ee⟩ := List.mem_map.mp h
        obtain ⟨he1, he2⟩ := List.mem_filter.mp he
        have h1 := esN_key nd (by omega) hk2 he1 ee
        have h2 := (esN_num (ts := ts) (x := x) (y := y) (n := few) e.num).mp (List.mem_map_of_mem he1)
        omega
      have nnm : ∀ j : Int, j ∈ ((esN ts x y few).filter fun e => decide (e.num ≠ (num : Int))).map (·.num) ↔ 0 ≤ j ∧ j < few ∧ j ≠ num := fun j => by
        refine ⟨fun h => ?_, fun h => ?_⟩
        · obtain ⟨e, he, rfl⟩ := List.mem_map.mp h
          obtain ⟨he1, he2⟩ := List.mem_filter.mp he
          have h2 := (esN_num (ts := ts) (x := x) (y := y) (n := few) e.num).mp (List.mem_map_of_mem he1)
          exact ⟨h2.1, h2.2, of_decide_eq_true he2⟩
        · obtain ⟨e, he, ee⟩ := List.mem_map.mp ((esN_num (ts := ts) (x := x) (y := y) (n := few) j).mpr ⟨h.1, h.2.1⟩)
          exact List.mem_map.mpr ⟨e, List.mem_filter.mpr ⟨he, decide_eq_true (by rw [ee]; exact h.2.2)⟩, ee⟩
      have lfl : ((esN ts x y few).filter fun e => decide (e.num ≠ (num : Int))).length ≤ 20 := by
        refine Nat.le_trans (List.length_filter_le _ _) ?_
        unfold esN
        rw [List.length_map, List.length_range]
        omega
      rw [show 8 + v / 10 ^ Int.toNat 5 % 6 = (oth : Int) from hoth]
      refine ⟨⟨by decide, by decide, by decide⟩, ⟨by decide, by decide⟩, by decide, _, .ref t2, .l (sG _ _ hD), atI_nat (by rw [List.getElem?_map, ht2]; rfl), ?_⟩
      rw [hM]
      clear hM n2 hoth
      have frs : ∀ {Q' : VK} {E' : XK} (G : Hp), Same H3 G → (∀ H0 ed b ca dn de cl sd H', Same G H0 → EdB Ad H0 H' ed dn de cl sd ca al ws r → EdAt Ad H' ed b ca dn de cl sd (esN ts x y few) lk0 day few → Q' (.ref ed) H') → sp_law_fresh Ad [.ref p, .ref D, .int (ManyI al ws), .int few, .int day] G Q' E' := fun {Q' E'} G sG kG =>
        ⟨p, q, D, ts, al, ws, r, ManyI al ws, day, few, x, y, rfl, ⟨sG _ _ P3.1, sG _ _ P3.2⟩, ok, (s03.trans sG) _ _ Tb, (s03.trans sG) _ _ Tb1, sG _ _ hD, pool_keep sG hts, nd, en, by omega, by omega, by omega, by omega, fun H0 ed b ca dn de cl sd H' t0 t1 fe fn fd' fc fs C5 E5 => kG H0 ed b ca dn de cl sd H' t0 ⟨t1, fe, fn, fd', fc, fs, C5, ok, (s03.trans (sG.trans t0)) _ _ Tb, (s03.trans (sG.trans t0)) _ _ Tb1⟩ E5⟩
      refine seq_go fun n2 hM => ?_
      and_intros
      refine frs G sG fun H0 ed b ca dn de cl sd G4 t04 F4 D4 => ?_
      have S04 : Same H3 H0 := sG.trans t04
      rw [hM]
      clear hM n2
      refine seq_go fun n2 hM => ?_
      obtain ⟨dx4, he4⟩ := D4.eF
      and_intros
      refine ⟨dx4, _, he4, rfl, ed, b, ca, dn, de, cl, sd, t1, _, _, day, day + 2, few, ⟨(num : Int), k1, t1⟩, rfl, D4, F4.s _ _ (S04 _ _ hkt1), hin, o1, by omega, by omega, by omega, by omega, fun G5 k5 D5 => ?_⟩
      have F5 := F4.to k5
      and_intros
      rw [if_neg (by simp)]
      show n2 _ _ _
      rw [hM]
      clear hM n2
      refine seq_go fun n2 hM => ?_
      and_intros
      obtain ⟨bh, hbh, b0, b1⟩ : ∃ bh : Int, atI [V.int 0, V.int 1, V.int 29, V.int 30, V.int (v / 10 ^ 6 % 31)] (v / 10 ^ 8 % 5) = some (V.int bh) ∧ 0 ≤ bh ∧ bh ≤ 30 := by
        rcases (show v / 10 ^ 8 % 5 = 0 ∨ v / 10 ^ 8 % 5 = 1 ∨ v / 10 ^ 8 % 5 = 2 ∨ v / 10 ^ 8 % 5 = 3 ∨ v / 10 ^ 8 % 5 = 4 by omega) with e | e | e | e | e <;> rw [e]
        · exact ⟨0, rfl, by omega, by omega⟩
        · exact ⟨1, rfl, by omega, by omega⟩
        · exact ⟨29, rfl, by omega, by omega⟩
        · exact ⟨30, rfl, by omega, by omega⟩
        · exact ⟨v / 10 ^ 6 % 31, rfl, by omega, by omega⟩
      refine ⟨⟨by decide, by decide, by decide⟩, ⟨by decide, by decide⟩, by decide, big (by decide), fun p6 G6 _ s6 g6 => ⟨⟨by decide, by decide, by decide⟩, ⟨by decide, by decide⟩, by decide, _, .int bh, .l g6, hbh, ?_⟩⟩
      have F6 := F5.same s6
      have D6 := D5.same s6
      clear hbh g6
      rw [hM]
      clear hM n2
      refine seq_go fun n2 hM => ?_
      and_intros
      refine ⟨H0, ed, b, ca, dn, de, cl, sd, t1, t2, _, al, ws, r, day + 2, num, few, bh, few + 1, k1, k2, rfl, F6, S04 _ _ hkt1, S04 _ _ hkt2, o1, o2, k12, D6, by omega, lfl, nk1, nk2, nnm, by omega, by omega, by omega, b0, b1, by omega, by omega, fun G7 es7 lk7 F7 D7 in7 => ⟨_, rfl, ?_⟩⟩
      rw [if_neg (by decide)]
      show n2 _ _ _
      rw [hM]
      clear hM n2
      refine seq_go fun n2 hM => ?_
      obtain ⟨dx7, he7⟩ := D7.eF
      and_intros
      refine ⟨dx7, _, he7, rfl, ed, b, ca, dn, de, cl, sd, t1, _, _, day + 2 + bh, day + 2 + bh, few + 1 + 3, ⟨(num : Int), k1, t1⟩, rfl, D7, F7.s _ _ (S04 _ _ hkt1), in7, o1, by omega, by omega, by omega, by omega, fun G8 k8 D8 => ?_⟩
      have F8 := F7.to k8
      and_intros
      rw [if_neg (by simp)]
      show n2 _ _ _
      rw [hM]
      clear hM n2
      have S8 : Same H3 G8 := S04.trans F8.s
      clear D8 F8 k8 D7 F7 in7 he7 D6 F6 D5 F5 k5 D4 F4 he4 s6
      refine seq_go fun n2 hM => ?_
      and_intros
      refine frs G8 S8 fun H0' ed' b' ca' dn' de' cl' sd' G9 t09 F9 D9 => ?_
      have S09 : Same H3 H0' := S8.trans t09
      rw [hM]
      clear hM n2
      refine seq_go fun n2 hM => ?_
      obtain ⟨dx9, he9⟩ := D9.eF
      and_intros
      refine ⟨dx9, _, he9, rfl, ed', b', ca', dn', de', cl', sd', t1, _, _, day, day + 2, few, ⟨(num : Int), k1, t1⟩, rfl, D9, F9.s _ _ (S09 _ _ hkt1), hin, o1, by omega, by omega, by omega, by omega, fun G10 k10 D10 => ?_⟩
      have F10 := F9.to k10
      and_intros
      rw [if_neg (by simp)]
      show n2 _ _ _
      rw [hM]
      clear hM n2
      refine seq_go fun n2 hM => ?_
      and_intros
      obtain ⟨yt, hyt, hyv⟩ : ∃ yt : V, atI [V.non, V.int (num : Int)] (v / 10 ^ 7 % 2) = some yt ∧ (yt = .non ∨ yt = .int num) := by
        rcases (show v / 10 ^ 7 % 2 = 0 ∨ v / 10 ^ 7 % 2 = 1 by omega) with e | e <;> rw [e]
        · exact ⟨.non, rfl, .inl rfl⟩
        · exact ⟨.int num, rfl, .inr rfl⟩
      refine ⟨big (by decide), fun p11 G11 _ s11 g11 => ⟨⟨by decide, by decide, by decide⟩, ⟨by decide, by decide⟩, by decide, _, yt, .l g11, hyt, ?_⟩⟩
      have F11 := F10.same s11
      have D11 := D10.same s11
      clear hyt g11
      rw [hM]
      clear hM n2
      and_intros
      obtain ⟨lt, hlt, lt0, lt1⟩ : ∃ lt : Int, day + 33 + v / 10 ^ 9 % 2 * 40 = lt ∧ day + 33 ≤ lt ∧ lt ≤ 1000000 := ⟨_, rfl, by omega, by omega⟩
      rw [show day + 33 + v / 10 ^ Int.toNat 9 % 2 * 40 = lt from hlt]
      refine ⟨⟨by decide, by decide, by decide⟩, ⟨by decide, by decide⟩, by decide, .inr (by decide), big (by decide), fun p12 G12 _ s12 g12 => ?_⟩
      have F12 := F11.same s12
      have D12 := D11.same s12
      have h9 := many9 ok
      have br : barE (fun i => if i = (num : Int) then some (day + 2, k1) else lk0 i) lt k2 num = false := by
        rw [bar_some (d := day + 2) (k := k1) (if_pos rfl), decide_eq_false k12, decide_eq_false (show ¬ lt - (day + 2) < 31 by omega)]
        rfl
      have nout : (num : Int) ∉ ((esN ts x y few).filter fun e => decide (e.num ≠ (num : Int))).map (·.num) := fun h => ((nnm _).mp h).2.2 rfl
      obtain ⟨dx12, he12⟩ := D12.eF
      refine ⟨ed', p12, t2, _, lt, yt, rfl, g12, ⟨dx12, _, he12, rfl, rfl⟩, .inr ⟨rfl, hyv.imp id fun e => ⟨_, e⟩, ?_⟩⟩
      refine ⟨ed', b', ca', dn', de', cl', sd', t2, _, _, day + 2, lt, num, few + 1, al, ws, r, k2, yt, rfl, D12, F12.C.same F12.s, ok, F12.s _ _ F12.Tb, F12.s _ _ F12.Tb1, F12.s _ _ (S09 _ _ hkt2), o2, Nat.lt_of_le_of_lt lfl (by decide), by omega, by omega, by omega, .inr ⟨by omega, .inr (.inr (.inr ⟨nk2, ?_, by omega, fun G13 k13 D13 => ?_⟩))⟩⟩
      · rcases hyv with e | e
        · exact .inr ⟨e, ⟨by omega, nout, br, fun j j0 j1 => .inl ((nnm j).mpr ⟨j0, by omega, by omega⟩)⟩⟩
        · exact .inl ⟨e, by omega, nout, br⟩
      have F13 := F12.to fun c o e1 e2 e3 e4 _ e => k13 c o e1 e2 e3 e4 e
      and_intros
      rw [if_neg (by simp)]
      exact hN _ _ _ _ _ _ _ _ _ _ _ _ (S09.trans F13.s)
    rintro σ G ⟨⟨o4, o5, o6, o7, o8, o9, o10, o11, o12, o13, o14, rfl⟩, sG⟩
    show nn _ _ _
    rw [hN]
    clear hN nn
    and_intros
    exact k _
end
theorem all_mk {l : PySem.W.OpenLaw} {w : World} {K : PySem.W.Frag} {h : Heap} {mg : Str → Option Value} {fa : Addr} {k_Code k_Book k_Editions k_CableError k_NoCode k_NoNumber k_NoWord k_NoEntry k_Twice k_TooMany k_NoDay k_cd k_tb k_cd1 k_tb1 : Addr} {f0 f1 f2 f3 f4 f5 f6 f7 f8 f9 f10 f11 f12 f13 f14 f15 f16 f17 f18 f19 f20 f21 f22 f23 f24 f25 f26 f27 f28 f29 f30 f31 f32 f33 f34 f35 : Addr} (X : K.In h) (G : h.Ns mainGlobals mg) (hfa : mg "law" = some (.ref fa))
    {od0 an0 od1 an1 od2 an2 od3 an3 od4 an4 od5 an5 od6 an6 od7 an7 od8 an8 od9 an9 od10 an10 od11 an11 od12 an12 od13 an13 od14 an14 od15 an15 od16 an16 od17 an17 od18 an18 od19 an19 od20 an20 od21 an21 od22 an22 od23 an23 od24 an24 od25 an25 od26 an26 od27 an27 od28 an28 od29 an29 od30 an30 od31 an31 od32 an32 od33 an33 od34 an34 od35 an35 : Option Addr} {sl0 sl1 sl2 sl3 sl4 sl5 sl6 sl7 sl8 sl9 sl10 sl11 sl12 sl13 sl14 sl15 sl16 sl17 sl18 sl19 sl20 sl21 sl22 sl23 sl24 sl25 sl26 sl27 sl28 sl29 sl30 sl31 sl32 sl33 sl34 sl35 : Array (Option Value)} {oc0 kV0 dc0 pm0 cd0 ct0 oc1 kV1 dc1 pm1 cd1 ct1 oc2 kV2 dc2 pm2 cd2 ct2 oc3 kV3 dc3 pm3 cd3 ct3 oc4 kV4 dc4 pm4 cd4 ct4 oc5 kV5 dc5 pm5 cd5 ct5 oc6 kV6 dc6 pm6 cd6 ct6 oc7 kV7 dc7 pm7 cd7 ct7 oc8 kV8 dc8 pm8 cd8 ct8 oc9 kV9 dc9 pm9 cd9 ct9 oc10 kV10 dc10 pm10 cd10 ct10 oc11 kV11 dc11 pm11 cd11 ct11 oc12 kV12 dc12 pm12 ct12 oc13 kV13 dc13 pm13 cd13 ct13 oc14 kV14 dc14 pm14 cd14 ct14 oc15 kV15 dc15 pm15 cd15 ct15 oc16 kV16 dc16 pm16 cd16 ct16 oc17 kV17 dc17 pm17 cd17 ct17 oc18 kV18 dc18 pm18 cd18 ct18 oc19 kV19 dc19 pm19 ct19 oc20 kV20 dc20 pm20 cd20 ct20 oc21 kV21 dc21 pm21 cd21 ct21 oc22 kV22 dc22 pm22 cd22 ct22 oc23 kV23 dc23 pm23 cd23 ct23 oc24 kV24 dc24 pm24 cd24 ct24 oc25 kV25 dc25 pm25 cd25 ct25 oc26 kV26 dc26 pm26 cd26 ct26 oc27 kV27 dc27 pm27 cd27 ct27 oc28 kV28 dc28 pm28 cd28 ct28 oc29 kV29 dc29 pm29 cd29 ct29 oc30 kV30 dc30 pm30 cd30 ct30 oc31 kV31 dc31 pm31 cd31 ct31 oc32 kV32 dc32 pm32 cd32 ct32 oc33 kV33 dc33 pm33 cd33 ct33 oc34 kV34 dc34 pm34 cd34 ct34 oc35 kV35 dc35 pm35 cd35 ct35 : Value}
    (g_Code : PySem.W.nsIn K mainGlobals "Code" = some (some (.ref k_Code)))
    (g_Book : PySem.W.nsIn K mainGlobals "Book" = some (some (.ref k_Book)))
    (g_Editions : PySem.W.nsIn K mainGlobals "Editions" = some (some (.ref k_Editions)))
    (g_CableError : PySem.W.nsIn K mainGlobals "CableError" = some (some (.ref k_CableError)))
    (g_NoCode : PySem.W.nsIn K mainGlobals "NoCode" = some (some (.ref k_NoCode)))
    (g_NoNumber : PySem.W.nsIn K mainGlobals "NoNumber" = some (some (.ref k_NoNumber)))
    (g_NoWord : PySem.W.nsIn K mainGlobals "NoWord" = some (some (.ref k_NoWord)))
    (g_NoEntry : PySem.W.nsIn K mainGlobals "NoEntry" = some (some (.ref k_NoEntry)))
    (g_Twice : PySem.W.nsIn K mainGlobals "Twice" = some (some (.ref k_Twice)))
    (g_TooMany : PySem.W.nsIn K mainGlobals "TooMany" = some (some (.ref k_TooMany)))
    (g_NoDay : PySem.W.nsIn K mainGlobals "NoDay" = some (some (.ref k_NoDay)))
    (a0 : PySem.W.nsIn K mainGlobals "is_whole" = some (some (.ref f0)))
    (l0 : K.lookup f0 = some ⟨oc0, od0, .func (PySem.W.fnOf "is_whole" "is_whole" (defArgs s_is_whole) (defBody s_is_whole) (defScope s_is_whole) .none kV0 dc0 pm0 an0 cd0 ct0), sl0⟩)
    (c0 : PySem.W.codeIn K cd0 "is_whole" = true)
    (k0 : PySem.W.keepIn K (.ref f0) = true)
    (a1 : PySem.W.nsIn K mainGlobals "common_divisor" = some (some (.ref f1)))
    (l1 : K.lookup f1 = some ⟨oc1, od1, .func (PySem.W.fnOf "common_divisor" "common_divisor" (defArgs s_common_divisor) (defBody s_common_divisor) (defScope s_common_divisor) .none kV1 dc1 pm1 an1 cd1 ct1), sl1⟩)
    (c1 : PySem.W.codeIn K cd1 "common_divisor" = true)
    (k1 : PySem.W.keepIn K (.ref f1) = true)
    (a2 : PySem.W.nsIn K mainGlobals "are_safe" = some (some (.ref f2)))
    (l2 : K.lookup f2 = some ⟨oc2, od2, .func (PySem.W.fnOf "are_safe" "are_safe" (defArgs s_are_safe) (defBody s_are_safe) (defScope s_are_safe) .none kV2 dc2 pm2 an2 cd2 ct2), sl2⟩)
    (c2 : PySem.W.codeIn K cd2 "are_safe" = true)
    (k2 : PySem.W.keepIn K (.ref f2) = true)
    (a3 : PySem.W.nsIn K mainGlobals "is_alphabet" = some (some (.ref f3)))
    (l3 : K.lookup f3 = some ⟨oc3, od3, .func (PySem.W.fnOf "is_alphabet" "is_alphabet" (defArgs s_is_alphabet) (defBody s_is_alphabet) (defScope s_is_alphabet) .none kV3 dc3 pm3 an3 cd3 ct3), sl3⟩)
    (c3 : PySem.W.codeIn K cd3 "is_alphabet" = true)
    (k3 : PySem.W.keepIn K (.ref f3) = true)
    (a4 : PySem.W.nsIn K mainGlobals "is_below" = some (some (.ref f4)))
    (l4 : K.lookup f4 = some ⟨oc4, od4, .func (PySem.W.fnOf "is_below" "is_below" (defArgs s_is_below) (defBody s_is_below) (defScope s_is_below) .none kV4 dc4 pm4 an4 cd4 ct4), sl4⟩)
    (c4 : PySem.W.codeIn K cd4 "is_below" = true)
    (k4 : PySem.W.keepIn K (.ref f4) = true)
    (a5 : PySem.W.nsIn K mainGlobals "are_weights" = some (some (.ref f5)))
    (l5 : K.lookup f5 = some ⟨oc5, od5, .func (PySem.W.fnOf "are_weights" "are_weights" (defArgs s_are_weights) (defBody s_are_weights) (defScope s_are_weights) .none kV5 dc5 pm5 an5 cd5 ct5), sl5⟩)
    (c5 : PySem.W.codeIn K cd5 "are_weights" = true)
    (k5 : PySem.W.keepIn K (.ref f5) = true)
    (a6 : PySem.W.findIn K (.ref k_Code) "__init__" = some (some (.ref f6)))
    (i6 : PySem.W.isFn K (.ref f6) = true)
    (l6 : K.lookup f6 = some ⟨oc6, od6, .func (PySem.W.fnOf "__init__" "Code.__init__" (defArgs s_Code_init) (defBody s_Code_init) (defScope s_Code_init) .none kV6 dc6 pm6 an6 cd6 ct6), sl6⟩)
    (c6 : PySem.W.codeIn K cd6 "Code.__init__" = true)
    (k6 : PySem.W.keepIn K (.ref f6) = true)
    (a7 : PySem.W.findIn K (.ref k_Code) "many" = some (some (.ref f7)))
    (i7 : PySem.W.isFn K (.ref f7) = true)
    (l7 : K.lookup f7 = some ⟨oc7, od7, .func (PySem.W.fnOf "many" "Code.many" (defArgs s_Code_many) (defBody s_Code_many) (defScope s_Code_many) .none kV7 dc7 pm7 an7 cd7 ct7), sl7⟩)
    (c7 : PySem.W.codeIn K cd7 "Code.many" = true)
    (k7 : PySem.W.keepIn K (.ref f7) = true)
    (a8 : PySem.W.nsIn K mainGlobals "are_letters" = some (some (.ref f8)))
    (l8 : K.lookup f8 = some ⟨oc8, od8, .func (PySem.W.fnOf "are_letters" "are_letters" (defArgs s_are_letters) (defBody s_are_letters) (defScope s_are_letters) .none kV8 dc8 pm8 an8 cd8 ct8), sl8⟩)
    (c8 : PySem.W.codeIn K cd8 "are_letters" = true)
    (k8 : PySem.W.keepIn K (.ref f8) = true)
    (a9 : PySem.W.nsIn K mainGlobals "are_words" = some (some (.ref f9)))
    (l9 : K.lookup f9 = some ⟨oc9, od9, .func (PySem.W.fnOf "are_words" "are_words" (defArgs s_are_words) (defBody s_are_words) (defScope s_are_words) .none kV9 dc9 pm9 an9 cd9 ct9), sl9⟩)
    (c9 : PySem.W.codeIn K cd9 "are_words" = true)
    (k9 : PySem.W.keepIn K (.ref f9) = true)
    (a10 : PySem.W.nsIn K mainGlobals "is_entry" = some (some (.ref f10)))
    (l10 : K.lookup f10 = some ⟨oc10, od10, .func (PySem.W.fnOf "is_entry" "is_entry" (defArgs s_is_entry) (defBody s_is_entry) (defScope s_is_entry) .none kV10 dc10 pm10 an10 cd10 ct10), sl10⟩)
    (c10 : PySem.W.codeIn K cd10 "is_entry" = true)
    (k10 : PySem.W.keepIn K (.ref f10) = true)
    (a11 : PySem.W.findIn K (.ref k_Book) "__init__" = some (some (.ref f11)))
    (i11 : PySem.W.isFn K (.ref f11) = true)
    (l11 : K.lookup f11 = some ⟨oc11, od11, .func (PySem.W.fnOf "__init__" "Book.__init__" (defArgs s_Book_init) (defBody s_Book_init) (defScope s_Book_init) .none kV11 dc11 pm11 an11 cd11 ct11), sl11⟩)
    (c11 : PySem.W.codeIn K cd11 "Book.__init__" = true)
    (k11 : PySem.W.keepIn K (.ref f11) = true)
    (a12 : PySem.W.findIn K (.ref k_Book) "put" = some (some (.ref f12)))
    (i12 : PySem.W.isFn K (.ref f12) = true)
    {dt12 : Addr} {tc12 : Value} {td12 : Option Addr} {tn12 : Nat} {ts12 : Array (Option Value)}
    (l12 : K.lookup f12 = some ⟨oc12, od12, .func (PySem.W.fnOf "put" "Book.put" (defArgs s_Book_put) (defBody s_Book_put) (defScope s_Book_put) (.ref dt12) kV12 dc12 pm12 an12 (.ref k_cd) ct12), sl12⟩)
    (t12 : K.lookup dt12 = some ⟨tc12, td12, .seq #[.none] tn12, ts12⟩)
    (c12 : PySem.W.codeIn K (.ref k_cd) "Book.put" = true)
    (k12 : PySem.W.keepIn K (.ref f12) = true)
    (a13 : PySem.W.findIn K (.ref k_Book) "choose" = some (some (.ref f13)))
    (i13 : PySem.W.isFn K (.ref f13) = true)
    (l13 : K.lookup f13 = some ⟨oc13, od13, .func (PySem.W.fnOf "choose" "Book.choose" (defArgs s_Book_choose) (defBody s_Book_choose) (defScope s_Book_choose) .none kV13 dc13 pm13 an13 cd13 ct13), sl13⟩)
    (c13 : PySem.W.codeIn K cd13 "Book.choose" = true)
    (k13 : PySem.W.keepIn K (.ref f13) = true)
    (a14 : PySem.W.findIn K (.ref k_Book) "least_free" = some (some (.ref f14)))
    (i14 : PySem.W.isFn K (.ref f14) = true)
    (l14 : K.lookup f14 = some ⟨oc14, od14, .func (PySem.W.fnOf "least_free" "Book.least_free" (defArgs s_Book_least_free) (defBody s_Book_least_free) (defScope s_Book_least_free) .none kV14 dc14 pm14 an14 cd14 ct14), sl14⟩)
    (c14 : PySem.W.codeIn K cd14 "Book.least_free" = true)
    (k14 : PySem.W.keepIn K (.ref f14) = true)
    (a15 : PySem.W.findIn K (.ref k_Book) "strike" = some (some (.ref f15)))
    (i15 : PySem.W.isFn K (.ref f15) = true)
    (l15 : K.lookup f15 = some ⟨oc15, od15, .func (PySem.W.fnOf "strike" "Book.strike" (defArgs s_Book_strike) (defBody s_Book_strike) (defScope s_Book_strike) .none kV15 dc15 pm15 an15 cd15 ct15), sl15⟩)
    (c15 : PySem.W.codeIn K cd15 "Book.strike" = true)
    (k15 : PySem.W.keepIn K (.ref f15) = true)
    (a16 : PySem.W.findIn K (.ref k_Book) "number" = some (some (.ref f16)))
    (i16 : PySem.W.isFn K (.ref f16) = true)
    (l16 : K.lookup f16 = some ⟨oc16, od16, .func (PySem.W.fnOf "number" "Book.number" (defArgs s_Book_number) (defBody s_Book_number) (defScope s_Book_number) .none kV16 dc16 pm16 an16 cd16 ct16), sl16⟩)
    (c16 : PySem.W.codeIn K cd16 "Book.number" = true)
    (k16 : PySem.W.keepIn K (.ref f16) = true)
    (a17 : PySem.W.nsIn K mainGlobals "is_day" = some (some (.ref f17)))
    (l17 : K.lookup f17 = some ⟨oc17, od17, .func (PySem.W.fnOf "is_day" "is_day" (defArgs s_is_day) (defBody s_is_day) (defScope s_is_day) .none kV17 dc17 pm17 an17 cd17 ct17), sl17⟩)
    (c17 : PySem.W.codeIn K cd17 "is_day" = true)
    (k17 : PySem.W.keepIn K (.ref f17) = true)
    (a18 : PySem.W.findIn K (.ref k_Editions) "__init__" = some (some (.ref f18)))
    (i18 : PySem.W.isFn K (.ref f18) = true)
    (l18 : K.lookup f18 = some ⟨oc18, od18, .func (PySem.W.fnOf "__init__" "Editions.__init__" (defArgs s_Editions_init) (defBody s_Editions_init) (defScope s_Editions_init) .none kV18 dc18 pm18 an18 cd18 ct18), sl18⟩)
    (c18 : PySem.W.codeIn K cd18 "Editions.__init__" = true)
    (k18 : PySem.W.keepIn K (.ref f18) = true)
    (a19 : PySem.W.findIn K (.ref k_Editions) "put" = some (some (.ref f19)))
    (i19 : PySem.W.isFn K (.ref f19) = true)
    {dt19 : Addr} {tc19 : Value} {td19 : Option Addr} {tn19 : Nat} {ts19 : Array (Option Value)}
    (l19 : K.lookup f19 = some ⟨oc19, od19, .func (PySem.W.fnOf "put" "Editions.put" (defArgs s_Editions_put) (defBody s_Editions_put) (defScope s_Editions_put) (.ref dt19) kV19 dc19 pm19 an19 (.ref k_cd1) ct19), sl19⟩)
    (t19 : K.lookup dt19 = some ⟨tc19, td19, .seq #[.none] tn19, ts19⟩)
    (c19 : PySem.W.codeIn K (.ref k_cd1) "Editions.put" = true)
    (k19 : PySem.W.keepIn K (.ref f19) = true)
    (a20 : PySem.W.findIn K (.ref k_Editions) "strike" = some (some (.ref f20)))
    (i20 : PySem.W.isFn K (.ref f20) = true)
    (l20 : K.lookup f20 = some ⟨oc20, od20, .func (PySem.W.fnOf "strike" "Editions.strike" (defArgs s_Editions_strike) (defBody s_Editions_strike) (defScope s_Editions_strike) .none kV20 dc20 pm20 an20 cd20 ct20), sl20⟩)
    (c20 : PySem.W.codeIn K cd20 "Editions.strike" = true)
    (k20 : PySem.W.keepIn K (.ref f20) = true)
    (a21 : PySem.W.findIn K (.ref k_Editions) "check_change" = some (some (.ref f21)))
    (i21 : PySem.W.isFn K (.ref f21) = true)
    (l21 : K.lookup f21 = some ⟨oc21, od21, .func (PySem.W.fnOf "check_change" "Editions.check_change" (defArgs s_Editions_check_change) (defBody s_Editions_check_change) (defScope s_Editions_check_change) .none kV21 dc21 pm21 an21 cd21 ct21), sl21⟩)
    (c21 : PySem.W.codeIn K cd21 "Editions.check_change" = true)
    (k21 : PySem.W.keepIn K (.ref f21) = true)
    (a22 : PySem.W.findIn K (.ref k_Editions) "is_barred" = some (some (.ref f22)))
    (i22 : PySem.W.isFn K (.ref f22) = true)
    (l22 : K.lookup f22 = some ⟨oc22, od22, .func (PySem.W.fnOf "is_barred" "Editions.is_barred" (defArgs s_Editions_is_barred) (defBody s_Editions_is_barred) (defScope s_Editions_is_barred) .none kV22 dc22 pm22 an22 cd22 ct22), sl22⟩)
    (c22 : PySem.W.codeIn K cd22 "Editions.is_barred" = true)
    (k22 : PySem.W.keepIn K (.ref f22) = true)
    (a23 : PySem.W.findIn K (.ref k_Editions) "note_change" = some (some (.ref f23)))
    (i23 : PySem.W.isFn K (.ref f23) = true)
    (l23 : K.lookup f23 = some ⟨oc23, od23, .func (PySem.W.fnOf "note_change" "Editions.note_change" (defArgs s_Editions_note_change) (defBody s_Editions_note_change) (defScope s_Editions_note_change) .none kV23 dc23 pm23 an23 cd23 ct23), sl23⟩)
    (c23 : PySem.W.codeIn K cd23 "Editions.note_change" = true)
    (k23 : PySem.W.keepIn K (.ref f23) = true)
    (a24 : PySem.W.nsIn K mainGlobals "_law_cell_at" = some (some (.ref f24)))
    (l24 : K.lookup f24 = some ⟨oc24, od24, .func (PySem.W.fnOf "_law_cell_at" "_law_cell_at" (defArgs s_law_cell_at) (defBody s_law_cell_at) (defScope s_law_cell_at) .none kV24 dc24 pm24 an24 cd24 ct24), sl24⟩)
    (c24 : PySem.W.codeIn K cd24 "_law_cell_at" = true)
    (k24 : PySem.W.keepIn K (.ref f24) = true)
    (a25 : PySem.W.nsIn K mainGlobals "_law_mixed" = some (some (.ref f25)))
    (l25 : K.lookup f25 = some ⟨oc25, od25, .func (PySem.W.fnOf "_law_mixed" "_law_mixed" (defArgs s_law_mixed) (defBody s_law_mixed) (defScope s_law_mixed) .none kV25 dc25 pm25 an25 cd25 ct25), sl25⟩)
    (c25 : PySem.W.codeIn K cd25 "_law_mixed" = true)
    (k25 : PySem.W.keepIn K (.ref f25) = true)
    (a26 : PySem.W.nsIn K mainGlobals "_law_apart" = some (some (.ref f26)))
    (l26 : K.lookup f26 = some ⟨oc26, od26, .func (PySem.W.fnOf "_law_apart" "_law_apart" (defArgs s_law_apart) (defBody s_law_apart) (defScope s_law_apart) .none kV26 dc26 pm26 an26 cd26 ct26), sl26⟩)
    (c26 : PySem.W.codeIn K cd26 "_law_apart" = true)
    (k26 : PySem.W.keepIn K (.ref f26) = true)
    (a27 : PySem.W.nsIn K mainGlobals "_law_weights" = some (some (.ref f27)))
    (l27 : K.lookup f27 = some ⟨oc27, od27, .func (PySem.W.fnOf "_law_weights" "_law_weights" (defArgs s_law_weights) (defBody s_law_weights) (defScope s_law_weights) .none kV27 dc27 pm27 an27 cd27 ct27), sl27⟩)
    (c27 : PySem.W.codeIn K cd27 "_law_weights" = true)
    (k27 : PySem.W.keepIn K (.ref f27) = true)
    (a28 : PySem.W.nsIn K mainGlobals "_law_code_parts" = some (some (.ref f28)))
    (l28 : K.lookup f28 = some ⟨oc28, od28, .func (PySem.W.fnOf "_law_code_parts" "_law_code_parts" (defArgs s_law_code_parts) (defBody s_law_code_parts) (defScope s_law_code_parts) .none kV28 dc28 pm28 an28 cd28 ct28), sl28⟩)
    (c28 : PySem.W.codeIn K cd28 "_law_code_parts" = true)
    (k28 : PySem.W.keepIn K (.ref f28) = true)
    (a29 : PySem.W.nsIn K mainGlobals "_law_many" = some (some (.ref f29)))
    (l29 : K.lookup f29 = some ⟨oc29, od29, .func (PySem.W.fnOf "_law_many" "_law_many" (defArgs s_law_many) (defBody s_law_many) (defScope s_law_many) .none kV29 dc29 pm29 an29 cd29 ct29), sl29⟩)
    (c29 : PySem.W.codeIn K cd29 "_law_many" = true)
    (k29 : PySem.W.keepIn K (.ref f29) = true)
    (a30 : PySem.W.nsIn K mainGlobals "_law_pool" = some (some (.ref f30)))
    (l30 : K.lookup f30 = some ⟨oc30, od30, .func (PySem.W.fnOf "_law_pool" "_law_pool" (defArgs s_law_pool) (defBody s_law_pool) (defScope s_law_pool) .none kV30 dc30 pm30 an30 cd30 ct30), sl30⟩)
    (c30 : PySem.W.codeIn K cd30 "_law_pool" = true)
    (k30 : PySem.W.keepIn K (.ref f30) = true)
    (a31 : PySem.W.nsIn K mainGlobals "_law_did" = some (some (.ref f31)))
    (l31 : K.lookup f31 = some ⟨oc31, od31, .func (PySem.W.fnOf "_law_did" "_law_did" (defArgs s_law_did) (defBody s_law_did) (defScope s_law_did) .none kV31 dc31 pm31 an31 cd31 ct31), sl31⟩)
    (c31 : PySem.W.codeIn K cd31 "_law_did" = true)
    (k31 : PySem.W.keepIn K (.ref f31) = true)
    (a32 : PySem.W.nsIn K mainGlobals "_law_filled" = some (some (.ref f32)))
    (l32 : K.lookup f32 = some ⟨oc32, od32, .func (PySem.W.fnOf "_law_filled" "_law_filled" (defArgs s_law_filled) (defBody s_law_filled) (defScope s_law_filled) .none kV32 dc32 pm32 an32 cd32 ct32), sl32⟩)
    (c32 : PySem.W.codeIn K cd32 "_law_filled" = true)
    (k32 : PySem.W.keepIn K (.ref f32) = true)
    (a33 : PySem.W.nsIn K mainGlobals "_law_fresh" = some (some (.ref f33)))
    (l33 : K.lookup f33 = some ⟨oc33, od33, .func (PySem.W.fnOf "_law_fresh" "_law_fresh" (defArgs s_law_fresh) (defBody s_law_fresh) (defScope s_law_fresh) .none kV33 dc33 pm33 an33 cd33 ct33), sl33⟩)
    (c33 : PySem.W.codeIn K cd33 "_law_fresh" = true)
    (k33 : PySem.W.keepIn K (.ref f33) = true)
    (a34 : PySem.W.nsIn K mainGlobals "_law_kept_days" = some (some (.ref f34)))
    (l34 : K.lookup f34 = some ⟨oc34, od34, .func (PySem.W.fnOf "_law_kept_days" "_law_kept_days" (defArgs s_law_kept_days) (defBody s_law_kept_days) (defScope s_law_kept_days) .none kV34 dc34 pm34 an34 cd34 ct34), sl34⟩)
    (c34 : PySem.W.codeIn K cd34 "_law_kept_days" = true)
    (k34 : PySem.W.keepIn K (.ref f34) = true)
    (a35 : PySem.W.nsIn K mainGlobals "law" = some (some (.ref f35)))
    (l35 : K.lookup f35 = some ⟨oc35, od35, .func (PySem.W.fnOf "law" "law" (defArgs s_law) (defBody s_law) (defScope s_law) .none kV35 dc35 pm35 an35 cd35 ct35), sl35⟩)
    (c35 : PySem.W.codeIn K cd35 "law" = true)
    (k35 : PySem.W.keepIn K (.ref f35) = true)
    (pg_Code : PySem.W.plainGet K k_Code Str.empty = true)
    (hd_Code : PySem.W.hasDictIn K k_Code = true)
    (po_Code : PySem.W.plainOver K k_Code = true)
    (sa_Code : PySem.W.findIn K (.ref k_Code) "__setattr__" = some (some (.builtin "object.__setattr__")))
    (mk_Code : PySem.W.makesIn K k_Code = true)
    (kc_Code : PySem.W.keepIn K (.ref k_Code) = true)
    (n_Code_letters : PySem.W.findIn K (.ref k_Code) "letters" = some none)
    (n_Code_factors : PySem.W.findIn K (.ref k_Code) "factors" = some none)
    (n_Code_remainder : PySem.W.findIn K (.ref k_Code) "remainder" = some none)
    (pg_Book : PySem.W.plainGet K k_Book Str.empty = true)
    (hd_Book : PySem.W.hasDictIn K k_Book = true)
    (po_Book : PySem.W.plainOver K k_Book = true)
    (sa_Book : PySem.W.findIn K (.ref k_Book) "__setattr__" = some (some (.builtin "object.__setattr__")))
    (mk_Book : PySem.W.makesIn K k_Book = true)
    (kc_Book : PySem.W.keepIn K (.ref k_Book) = true)
    (n_Book_basis : PySem.W.findIn K (.ref k_Book) "basis" = some none)
    (n_Book_by_number : PySem.W.findIn K (.ref k_Book) "by_number" = some none)
    (n_Book_by_entry : PySem.W.findIn K (.ref k_Book) "by_entry" = some none)
    (pg_Editions : PySem.W.plainGet K k_Editions Str.empty = true)
    (hd_Editions : PySem.W.hasDictIn K k_Editions = true)
    (po_Editions : PySem.W.plainOver K k_Editions = true)
    (sa_Editions : PySem.W.findIn K (.ref k_Editions) "__setattr__" = some (some (.builtin "object.__setattr__")))
    (mk_Editions : PySem.W.makesIn K k_Editions = true)
    (kc_Editions : PySem.W.keepIn K (.ref k_Editions) = true)
    (n_Editions_current : PySem.W.findIn K (.ref k_Editions) "current" = some none)
    (n_Editions_changes : PySem.W.findIn K (.ref k_Editions) "changes" = some none)
    (n_Editions_struck : PySem.W.findIn K (.ref k_Editions) "struck" = some none)
    (n_Editions_latest : PySem.W.findIn K (.ref k_Editions) "latest" = some none)
    (q_NoCode : PySem.W.excIn K k_NoCode [.type "ValueError", .type "Exception", .type "BaseException", .type "object"] "ValueError.__new__" = true)
    (q_NoNumber : PySem.W.excIn K k_NoNumber [.type "ValueError", .type "Exception", .type "BaseException", .type "object"] "ValueError.__new__" = true)
    (q_NoWord : PySem.W.excIn K k_NoWord [.type "ValueError", .type "Exception", .type "BaseException", .type "object"] "ValueError.__new__" = true)
    (q_NoEntry : PySem.W.excIn K k_NoEntry [.type "ValueError", .type "Exception", .type "BaseException", .type "object"] "ValueError.__new__" = true)
    (q_Twice : PySem.W.excIn K k_Twice [.type "ValueError", .type "Exception", .type "BaseException", .type "object"] "ValueError.__new__" = true)
    (q_TooMany : PySem.W.excIn K k_TooMany [.type "ValueError", .type "Exception", .type "BaseException", .type "object"] "ValueError.__new__" = true)
    (q_NoDay : PySem.W.excIn K k_NoDay [.type "ValueError", .type "Exception", .type "BaseException", .type "object"] "ValueError.__new__" = true)
    (tab : PySem.W.codeHdIn K k_cd k_tb = true)
    (tab1 : PySem.W.codeHdIn K k_cd1 k_tb1 = true)
    (err : errAll K k_CableError [k_NoCode, k_NoNumber, k_NoWord, k_NoEntry, k_Twice, k_TooMany, k_NoDay] = true)
    (ndx : ndB [k_NoCode, k_NoNumber, k_NoWord, k_NoEntry, k_Twice, k_TooMany, k_NoDay] = true)
    {u_SMALL_LETTERS : Value}
    (v_SMALL_LETTERS : PySem.W.nsIn K mainGlobals "SMALL_LETTERS" = some (some u_SMALL_LETTERS))
    (r_SMALL_LETTERS : RelV (.str "abcdefghijklmnopqrstuvwxyz") u_SMALL_LETTERS)
    {u_LONGEST_WORD : Value}
    (v_LONGEST_WORD : PySem.W.nsIn K mainGlobals "LONGEST_WORD" = some (some u_LONGEST_WORD))
    (r_LONGEST_WORD : RelV (.int 20) u_LONGEST_WORD)
    {u_MOST_ENTRIES : Value}
    (v_MOST_ENTRIES : PySem.W.nsIn K mainGlobals "MOST_ENTRIES" = some (some u_MOST_ENTRIES))
    (r_MOST_ENTRIES : RelV (.int 300) u_MOST_ENTRIES)
    {u_MOST_PHRASE_WORDS : Value}
    (v_MOST_PHRASE_WORDS : PySem.W.nsIn K mainGlobals "MOST_PHRASE_WORDS" = some (some u_MOST_PHRASE_WORDS))
    (r_MOST_PHRASE_WORDS : RelV (.int 6) u_MOST_PHRASE_WORDS)
    {u_MOST_PART_LETTERS : Value}
    (v_MOST_PART_LETTERS : PySem.W.nsIn K mainGlobals "MOST_PART_LETTERS" = some (some u_MOST_PART_LETTERS))
    (r_MOST_PART_LETTERS : RelV (.int 6) u_MOST_PART_LETTERS)
    {u_LATEST_DAY : Value}
    (v_LATEST_DAY : PySem.W.nsIn K mainGlobals "LATEST_DAY" = some (some u_LATEST_DAY))
    (r_LATEST_DAY : RelV (.int 1000000000) u_LATEST_DAY)
    {u_DAYS_BARRED : Value}
    (v_DAYS_BARRED : PySem.W.nsIn K mainGlobals "DAYS_BARRED" = some (some u_DAYS_BARRED))
    (r_DAYS_BARRED : RelV (.int 31) u_DAYS_BARRED)
    (z_isinstance : PySem.W.nsIn K mainGlobals "isinstance" = some none)
    (z_bool : PySem.W.nsIn K mainGlobals "bool" = some none)
    (z_int : PySem.W.nsIn K mainGlobals "int" = some none)
    (z_abs : PySem.W.nsIn K mainGlobals "abs" = some none)
    (z_all : PySem.W.nsIn K mainGlobals "all" = some none)
    (z_zip : PySem.W.nsIn K mainGlobals "zip" = some none)
    (z_len : PySem.W.nsIn K mainGlobals "len" = some none)
    (z_set : PySem.W.nsIn K mainGlobals "set" = some none)
    (z_str : PySem.W.nsIn K mainGlobals "str" = some none)
    (z_list : PySem.W.nsIn K mainGlobals "list" = some none)
    (z_tuple : PySem.W.nsIn K mainGlobals "tuple" = some none)
    (z_range : PySem.W.nsIn K mainGlobals "range" = some none)
    (z_ValueError : PySem.W.nsIn K mainGlobals "ValueError" = some none)
    (z_max : PySem.W.nsIn K mainGlobals "max" = some none)
    (z_min : PySem.W.nsIn K mainGlobals "min" = some none)
    : (∀ p ∈ [(k_tb, lamQ), (k_tb1, lamQ1)], ∃ c, PySem.W.codeHdIn K c p.1 = true) ∧ ∃ fd : FuncData, (∀ (s : Shared) (v : Value), BindsTo s fd ⟨[v], []⟩ [("_law_script", v)]) ∧ ∀ base : Heap, K.In base → base.Ns mainGlobals mg → FnOk l.prog w K mg base (CX1 l.prog w) 10 fa fd ["_law_script"] (sp_law K k_tb k_tb1) := by
  have e := hfa.symm.trans (PySem.W.mg_of X G a35)
  cases e
  have T : Bl mg := ⟨PySem.W.mg_none_of X G z_isinstance, PySem.W.mg_none_of X G z_bool, PySem.W.mg_none_of X G z_int, PySem.W.mg_none_of X G z_abs, PySem.W.mg_none_of X G z_all, PySem.W.mg_none_of X G z_zip, PySem.W.mg_none_of X G z_len, PySem.W.mg_none_of X G z_set, PySem.W.mg_none_of X G z_str, PySem.W.mg_none_of X G z_list, PySem.W.mg_none_of X G z_tuple, PySem.W.mg_none_of X G z_range, PySem.W.mg_none_of X G z_ValueError, PySem.W.mg_none_of X G z_max, PySem.W.mg_none_of X G z_min⟩
  have AF : AdF K mg ⟨k_Code, k_Book, k_Editions, k_CableError, k_NoCode, k_NoNumber, k_NoWord, k_NoEntry, k_Twice, k_TooMany, k_NoDay, k_cd, k_tb, k_cd1, k_tb1, ()⟩ := ⟨PySem.W.mg_of X G g_Code, PySem.W.mg_of X G g_Book, PySem.W.mg_of X G g_Editions, PySem.W.mg_of X G g_CableError, PySem.W.mg_of X G g_NoCode, PySem.W.mg_of X G g_NoNumber, PySem.W.mg_of X G g_NoWord, PySem.W.mg_of X G g_NoEntry, PySem.W.mg_of X G g_Twice, PySem.W.mg_of X G g_TooMany, PySem.W.mg_of X G g_NoDay, ⟨pg_Code, hd_Code, po_Code, sa_Code⟩, n_Code_letters, n_Code_factors, n_Code_remainder, ⟨pg_Book, hd_Book, po_Book, sa_Book⟩, n_Book_basis, n_Book_by_number, n_Book_by_entry, ⟨pg_Editions, hd_Editions, po_Editions, sa_Editions⟩, n_Editions_current, n_Editions_changes, n_Editions_struck, n_Editions_latest, q_NoCode, q_NoNumber, q_NoWord, q_NoEntry, q_Twice, q_TooMany, q_NoDay, tab, tab1, err, ndx, ⟨_, PySem.W.mg_of X G v_SMALL_LETTERS, r_SMALL_LETTERS⟩, ⟨_, PySem.W.mg_of X G v_LONGEST_WORD, r_LONGEST_WORD⟩, ⟨_, PySem.W.mg_of X G v_MOST_ENTRIES, r_MOST_ENTRIES⟩, ⟨_, PySem.W.mg_of X G v_MOST_PHRASE_WORDS, r_MOST_PHRASE_WORDS⟩, ⟨_, PySem.W.mg_of X G v_MOST_PART_LETTERS, r_MOST_PART_LETTERS⟩, ⟨_, PySem.W.mg_of X G v_LATEST_DAY, r_LATEST_DAY⟩, ⟨_, PySem.W.mg_of X G v_DAYS_BARRED, r_DAYS_BARRED⟩⟩
  have F0 := fun_mk (st := s_is_whole) l0 c0 k0
  have F1 := fun_mk (st := s_common_divisor) l1 c1 k1
  have F2 := fun_mk (st := s_are_safe) l2 c2 k2
  have F3 := fun_mk (st := s_is_alphabet) l3 c3 k3
  have F4 := fun_mk (st := s_is_below) l4 c4 k4
  have F5 := fun_mk (st := s_are_weights) l5 c5 k5
  have F6 := fun_mk (st := s_Code_init) l6 c6 k6
  have F7 := fun_mk (st := s_Code_many) l7 c7 k7
  have F8 := fun_mk (st := s_are_letters) l8 c8 k8
  have F9 := fun_mk (st := s_are_words) l9 c9 k9
  have F10 := fun_mk (st := s_is_entry) l10 c10 k10
  have F11 := fun_mk (st := s_Book_init) l11 c11 k11
  have F12 := funD_mk (st := s_Book_put) l12 c12 k12
  have F13 := fun_mk (st := s_Book_choose) l13 c13 k13
  have F14 := fun_mk (st := s_Book_least_free) l14 c14 k14
  have F15 := fun_mk (st := s_Book_strike) l15 c15 k15
  have F16 := fun_mk (st := s_Book_number) l16 c16 k16
  have F17 := fun_mk (st := s_is_day) l17 c17 k17
  have F18 := fun_mk (st := s_Editions_init) l18 c18 k18
  have F19 := funD_mk (st := s_Editions_put) l19 c19 k19
  have F20 := fun_mk (st := s_Editions_strike) l20 c20 k20
  have F21 := fun_mk (st := s_Editions_check_change) l21 c21 k21
  have F22 := fun_mk (st := s_Editions_is_barred) l22 c22 k22
  have F23 := fun_mk (st := s_Editions_note_change) l23 c23 k23
  have F24 := fun_mk (st := s_law_cell_at) l24 c24 k24
  have F25 := fun_mk (st := s_law_mixed) l25 c25 k25
  have F26 := fun_mk (st := s_law_apart) l26 c26 k26
  have F27 := fun_mk (st := s_law_weights) l27 c27 k27
  have F28 := fun_mk (st := s_law_code_parts) l28 c28 k28
  have F29 := fun_mk (st := s_law_many) l29 c29 k29
  have F30 := fun_mk (st := s_law_pool) l30 c30 k30
  have F31 := fun_mk (st := s_law_did) l31 c31 k31
  have F32 := fun_mk (st := s_law_filled) l32 c32 k32
  have F33 := fun_mk (st := s_law_fresh) l33 c33 k33
  have F34 := fun_mk (st := s_law_kept_days) l34 c34 k34
  have F35 := fun_mk (st := s_law) l35 c35 k35
  refine ⟨List.forall_mem_cons.mpr ⟨⟨_, tab⟩, List.forall_mem_cons.mpr ⟨⟨_, tab1⟩, fun _ h => nomatch h⟩⟩, PySem.W.fnOf "law" "law" (defArgs s_law) (defBody s_law) (defScope s_law) .none kV35 dc35 pm35 an35 cd35 ct35, fun s v => .of_eq rfl, fun base _ _ => ?_⟩
  have b0 := F0.binds (ps := ["thing"]) fun _ _ _ _ _ _ => L2.bind1 fun _ => rfl
  have C_is_whole : Fnc l.prog w K mg base (CX1 l.prog w) 1 "is_whole" ["thing"] sp_is_whole := ⟨f0, _, ok_is_whole F0 T AF , PySem.W.mg_of X G a0, k0, b0⟩
  have b1 := F1.binds (ps := ["one", "other"]) fun _ _ _ _ _ _ => L2.bind2 fun _ _ => rfl
  have C_common_divisor : Fnc l.prog w K mg base (CX1 l.prog w) 1 "common_divisor" ["one", "other"] sp_common_divisor := ⟨f1, _, ok_common_divisor F1 T AF , PySem.W.mg_of X G a1, k1, b1⟩
  have b3 := F3.binds (ps := ["thing"]) fun _ _ _ _ _ _ => L2.bind1 fun _ => rfl
  have C_is_alphabet : Fnc l.prog w K mg base (CX1 l.prog w) 1 "is_alphabet" ["thing"] sp_is_alphabet := ⟨f3, _, ok_is_alphabet F3 T AF , PySem.W.mg_of X G a3, k3, b3⟩
  have b7 := F7.binds (ps := ["self"]) fun _ _ _ _ _ _ => L2.bind1 fun _ => rfl
  have M_Code_many : Mtd l.prog w K mg base (CX1 l.prog w) k_Code "many" 1 ["self"] (sp_Code_many (⟨k_Code, k_Book, k_Editions, k_CableError, k_NoCode, k_NoNumber, k_NoWord, k_NoEntry, k_Twice, k_TooMany, k_NoDay, k_cd, k_tb, k_cd1, k_tb1, ()⟩ : Ads)) := ⟨⟨f7, _, ok_Code_many F7 T AF , ⟨a7, i7, k7⟩, b7⟩, AF.c_Code⟩
  have b8 := F8.binds (ps := ["thing", "most"]) fun _ _ _ _ _ _ => L2.bind2 fun _ _ => rfl
  have C_are_letters : Fnc l.prog w K mg base (CX1 l.prog w) 1 "are_letters" ["thing", "most"] sp_are_letters := ⟨f8, _, ok_are_letters F8 T AF , PySem.W.mg_of X G a8, k8, b8⟩
  have b11 := F11.binds (ps := ["self", "code"]) fun _ _ _ _ _ _ => L2.bind2 fun _ _ => rfl
  have K_Book : Mak l.prog w K mg base (CX1 l.prog w) k_Book "Book" 1 ["self", "code"] (sp_Book_init (⟨k_Code, k_Book, k_Editions, k_CableError, k_NoCode, k_NoNumber, k_NoWord, k_NoEntry, k_Twice, k_TooMany, k_NoDay, k_cd, k_tb, k_cd1, k_tb1, ()⟩ : Ads)) := ⟨⟨f11, _, ok_Book_init F11 T AF , ⟨mk_Book, a11, i11, kc_Book⟩, b11⟩, AF.g_Book⟩
  have b22 := F22.binds (ps := ["self", "day", "entry", "number"]) fun _ _ _ _ _ _ => L2.bind4 fun _ _ _ _ => rfl
  have M_Editions_is_barred : Mtd l.prog w K mg base (CX1 l.prog w) k_Editions "is_barred" 1 ["self", "day", "entry", "number"] (sp_Editions_is_barred K (⟨k_Code, k_Book, k_Editions, k_CableError, k_NoCode, k_NoNumber, k_NoWord, k_NoEntry, k_Twice, k_TooMany, k_NoDay, k_cd, k_tb, k_cd1, k_tb1, ()⟩ : Ads)) := ⟨⟨f22, _, ok_Editions_is_barred F22 T AF , ⟨a22, i22, k22⟩, b22⟩, AF.c_Editions⟩
  have b23 := F23.binds (ps := ["self", "day", "number", "entry"]) fun _ _ _ _ _ _ => L2.bind4 fun _ _ _ _ => rfl
  have M_Editions_note_change : Mtd l.prog w K mg base (CX1 l.prog w) k_Editions "note_change" 1 ["self", "day", "number", "entry"] (sp_Editions_note_change (⟨k_Code, k_Book, k_Editions, k_CableError, k_NoCode, k_NoNumber, k_NoWord, k_NoEntry, k_Twice, k_TooMany, k_NoDay, k_cd, k_tb, k_cd1, k_tb1, ()⟩ : Ads)) := ⟨⟨f23, _, ok_Editions_note_change F23 T AF , ⟨a23, i23, k23⟩, b23⟩, AF.c_Editions⟩
  have b24 := F24.binds (ps := ["_law_script", "_law_k"]) fun _ _ _ _ _ _ => L2.bind2 fun _ _ => rfl
  have C_law_cell_at : Fnc l.prog w K mg base (CX1 l.prog w) 1 "_law_cell_at" ["_law_script", "_law_k"] (sp_law_cell_at K) := ⟨f24, _, ok_law_cell_at F24 T AF , PySem.W.mg_of X G a24, k24, b24⟩
  have b25 := F25.binds (ps := ["_law_cell"]) fun _ _ _ _ _ _ => L2.bind1 fun _ => rfl
  have C_law_mixed : Fnc l.prog w K mg base (CX1 l.prog w) 1 "_law_mixed" ["_law_cell"] sp_law_mixed := ⟨f25, _, ok_law_mixed F25 T AF , PySem.W.mg_of X G a25, k25, b25⟩
  have b26 := F26.binds (ps := ["_law_number", "_law_m"]) fun _ _ _ _ _ _ => L2.bind2 fun _ _ => rfl
  have C_law_apart : Fnc l.prog w K mg base (CX1 l.prog w) 1 "_law_apart" ["_law_number", "_law_m"] sp_law_apart := ⟨f26, _, ok_law_apart F26 T AF , PySem.W.mg_of X G a26, k26, b26⟩
  have b29 := F29.binds (ps := ["_law_parts"]) fun _ _ _ _ _ _ => L2.bind1 fun _ => rfl
  have C_law_many : Fnc l.prog w K mg base (CX1 l.prog w) 1 "_law_many" ["_law_parts"] sp_law_many := ⟨f29, _, ok_law_many F29 T AF , PySem.W.mg_of X G a29, k29, b29⟩
  have b30 := F30.binds (ps := ["_law_cell"]) fun _ _ _ _ _ _ => L2.bind1 fun _ => rfl
  have C_law_pool : Fnc l.prog w K mg base (CX1 l.prog w) 1 "_law_pool" ["_law_cell"] sp_law_pool := ⟨f30, _, ok_law_pool F30 T AF , PySem.W.mg_of X G a30, k30, b30⟩
  have b2 := F2.binds (ps := ["weights", "m"]) fun _ _ _ _ _ _ => L2.bind2 fun _ _ => rfl
  have C_are_safe : Fnc l.prog w K mg base (CX1 l.prog w) 2 "are_safe" ["weights", "m"] sp_are_safe := ⟨f2, _, ok_are_safe F2 T AF C_common_divisor, PySem.W.mg_of X G a2, k2, b2⟩
  have b4 := F4.binds (ps := ["thing", "bound"]) fun _ _ _ _ _ _ => L2.bind2 fun _ _ => rfl
  have C_is_below : Fnc l.prog w K mg base (CX1 l.prog w) 2 "is_below" ["thing", "bound"] sp_is_below := ⟨f4, _, ok_is_below F4 T AF C_is_whole, PySem.W.mg_of X G a4, k4, b4⟩
  have b9 := F9.binds (ps := ["thing", "most"]) fun _ _ _ _ _ _ => L2.bind2 fun _ _ => rfl
  have C_are_words : Fnc l.prog w K mg base (CX1 l.prog w) 2 "are_words" ["thing", "most"] sp_are_words := ⟨f9, _, ok_are_words F9 T AF C_are_letters, PySem.W.mg_of X G a9, k9, b9⟩
  have b14 := F14.binds (ps := ["self", "is_barred"]) fun _ _ _ _ _ _ => L2.bind2 fun _ _ => rfl
  have M_Book_least_free : MtdHO l.prog w K mg base (CX1 l.prog w) k_Book "least_free" 2 1 ["self", "is_barred"] (sp_Book_least_free (⟨k_Code, k_Book, k_Editions, k_CableError, k_NoCode, k_NoNumber, k_NoWord, k_NoEntry, k_Twice, k_TooMany, k_NoDay, k_cd, k_tb, k_cd1, k_tb1, ()⟩ : Ads)) := ⟨⟨f14, _, fun k => ok_Book_least_free (k := k) F14 T AF M_Code_many, ⟨a14, i14, k14⟩, b14⟩, AF.c_Book⟩
  have b27 := F27.binds (ps := ["_law_cell", "_law_m", "_law_many_here"]) fun _ _ _ _ _ _ => L2.bind3 fun _ _ _ => rfl
  have C_law_weights : Fnc l.prog w K mg base (CX1 l.prog w) 2 "_law_weights" ["_law_cell", "_law_m", "_law_many_here"] sp_law_weights := ⟨f27, _, ok_law_weights F27 T AF C_law_apart, PySem.W.mg_of X G a27, k27, b27⟩
  have b5 := F5.binds (ps := ["thing", "m"]) fun _ _ _ _ _ _ => L2.bind2 fun _ _ => rfl
  have C_are_weights : Fnc l.prog w K mg base (CX1 l.prog w) 3 "are_weights" ["thing", "m"] sp_are_weights := ⟨f5, _, ok_are_weights F5 T AF C_is_below, PySem.W.mg_of X G a5, k5, b5⟩
  have b10 := F10.binds (ps := ["thing"]) fun _ _ _ _ _ _ => L2.bind1 fun _ => rfl
  have C_is_entry : Fnc l.prog w K mg base (CX1 l.prog w) 3 "is_entry" ["thing"] sp_is_entry := ⟨f10, _, ok_is_entry F10 T AF C_are_letters C_are_words, PySem.W.mg_of X G a10, k10, b10⟩
  have b17 := F17.binds (ps := ["thing"]) fun _ _ _ _ _ _ => L2.bind1 fun _ => rfl
  have C_is_day : Fnc l.prog w K mg base (CX1 l.prog w) 3 "is_day" ["thing"] sp_is_day := ⟨f17, _, ok_is_day F17 T AF C_is_below, PySem.W.mg_of X G a17, k17, b17⟩
  have b18 := F18.binds (ps := ["self", "code"]) fun _ _ _ _ _ _ => L2.bind2 fun _ _ => rfl
  have K_Editions : Mak l.prog w K mg base (CX1 l.prog w) k_Editions "Editions" 3 ["self", "code"] (sp_Editions_init (⟨k_Code, k_Book, k_Editions, k_CableError, k_NoCode, k_NoNumber, k_NoWord, k_NoEntry, k_Twice, k_TooMany, k_NoDay, k_cd, k_tb, k_cd1, k_tb1, ()⟩ : Ads)) := ⟨⟨f18, _, ok_Editions_init F18 T AF K_Book, ⟨mk_Editions, a18, i18, kc_Editions⟩, b18⟩, AF.g_Editions⟩
  have b28 := F28.binds (ps := ["_law_script"]) fun _ _ _ _ _ _ => L2.bind1 fun _ => rfl
  have C_law_code_parts : Fnc l.prog w K mg base (CX1 l.prog w) 3 "_law_code_parts" ["_law_script"] (sp_law_code_parts K) := ⟨f28, _, ok_law_code_parts F28 T AF C_law_weights C_law_mixed C_law_cell_at, PySem.W.mg_of X G a28, k28, b28⟩
  have b6 := F6.binds (ps := ["self", "alphabet", "weights", "rest"]) fun _ _ _ _ _ _ => L2.bind4 fun _ _ _ _ => rfl
  have K_Code : Mak l.prog w K mg base (CX1 l.prog w) k_Code "Code" 4 ["self", "alphabet", "weights", "rest"] (sp_Code_init (⟨k_Code, k_Book, k_Editions, k_CableError, k_NoCode, k_NoNumber, k_NoWord, k_NoEntry, k_Twice, k_TooMany, k_NoDay, k_cd, k_tb, k_cd1, k_tb1, ()⟩ : Ads)) := ⟨⟨f6, _, ok_Code_init F6 T AF C_are_safe C_is_below C_are_weights C_is_alphabet, ⟨mk_Code, a6, i6, kc_Code⟩, b6⟩, AF.g_Code⟩
  have b13 := F13.binds (ps := ["self", "entry", "number", "is_barred"]) fun _ _ _ _ _ _ => L2.bind4 fun _ _ _ _ => rfl
  have M_Book_choose : MtdHO l.prog w K mg base (CX1 l.prog w) k_Book "choose" 4 1 ["self", "entry", "number", "is_barred"] (sp_Book_choose (⟨k_Code, k_Book, k_Editions, k_CableError, k_NoCode, k_NoNumber, k_NoWord, k_NoEntry, k_Twice, k_TooMany, k_NoDay, k_cd, k_tb, k_cd1, k_tb1, ()⟩ : Ads)) := ⟨⟨f13, _, fun k => ok_Book_choose (k := k) F13 T AF C_is_below C_is_entry M_Book_least_free M_Code_many, ⟨a13, i13, k13⟩, b13⟩, AF.c_Book⟩
  have b16 := F16.binds (ps := ["self", "entry"]) fun _ _ _ _ _ _ => L2.bind2 fun _ _ => rfl
  have M_Book_number : Mtd l.prog w K mg base (CX1 l.prog w) k_Book "number" 4 ["self", "entry"] (sp_Book_number (⟨k_Code, k_Book, k_Editions, k_CableError, k_NoCode, k_NoNumber, k_NoWord, k_NoEntry, k_Twice, k_TooMany, k_NoDay, k_cd, k_tb, k_cd1, k_tb1, ()⟩ : Ads)) := ⟨⟨f16, _, ok_Book_number F16 T AF C_is_entry, ⟨a16, i16, k16⟩, b16⟩, AF.c_Book⟩
  have b21 := F21.binds (ps := ["self", "day"]) fun _ _ _ _ _ _ => L2.bind2 fun _ _ => rfl
  have M_Editions_check_change : Mtd l.prog w K mg base (CX1 l.prog w) k_Editions "check_change" 4 ["self", "day"] (sp_Editions_check_change (⟨k_Code, k_Book, k_Editions, k_CableError, k_NoCode, k_NoNumber, k_NoWord, k_NoEntry, k_Twice, k_TooMany, k_NoDay, k_cd, k_tb, k_cd1, k_tb1, ()⟩ : Ads)) := ⟨⟨f21, _, ok_Editions_check_change F21 T AF C_is_day, ⟨a21, i21, k21⟩, b21⟩, AF.c_Editions⟩
  have b15 := F15.binds (ps := ["self", "entry"]) fun _ _ _ _ _ _ => L2.bind2 fun _ _ => rfl
  have M_Book_strike : Mtd l.prog w K mg base (CX1 l.prog w) k_Book "strike" 5 ["self", "entry"] (sp_Book_strike (⟨k_Code, k_Book, k_Editions, k_CableError, k_NoCode, k_NoNumber, k_NoWord, k_NoEntry, k_Twice, k_TooMany, k_NoDay, k_cd, k_tb, k_cd1, k_tb1, ()⟩ : Ads)) := ⟨⟨f15, _, ok_Book_strike F15 T AF M_Book_number, ⟨a15, i15, k15⟩, b15⟩, AF.c_Book⟩
  have b12 : Binds K (PySem.W.fnOf "put" "Book.put" (defArgs s_Book_put) (defBody s_Book_put) (defScope s_Book_put) (.ref dt12) kV12 dc12 pm12 an12 (.ref k_cd) ct12) ["self", "entry", "number"] [] := fun s us hK hl => match us, (show us.length = 3 by simpa using hl) with | [_, _, _], _ => .of_defaults rfl (hK _ _ t12) rfl rfl rfl
  have bd12 : Binds K (PySem.W.fnOf "put" "Book.put" (defArgs s_Book_put) (defBody s_Book_put) (defScope s_Book_put) (.ref dt12) kV12 dc12 pm12 an12 (.ref k_cd) ct12) ["self", "entry", "number"] [.none] := fun s us hK hl => match us, (show us.length = 2 by simpa using hl) with | [_, _], _ => .of_defaults rfl (hK _ _ t12) rfl rfl rfl
  have M_Book_put : Mtd l.prog w K mg base (CX1 l.prog w) k_Book "put" 6 ["self", "entry", "number"] (sp_Book_put (⟨k_Code, k_Book, k_Editions, k_CableError, k_NoCode, k_NoNumber, k_NoWord, k_NoEntry, k_Twice, k_TooMany, k_NoDay, k_cd, k_tb, k_cd1, k_tb1, ()⟩ : Ads)) := ⟨⟨f12, _, ok_Book_put F12 T AF rfl M_Book_choose, ⟨a12, i12, k12⟩, b12⟩, AF.c_Book⟩
  have D_Book_put : MtdD l.prog w K mg base (CX1 l.prog w) k_Book "put" 6 ["self", "entry", "number"] (sp_Book_put (⟨k_Code, k_Book, k_Editions, k_CableError, k_NoCode, k_NoNumber, k_NoWord, k_NoEntry, k_Twice, k_TooMany, k_NoDay, k_cd, k_tb, k_cd1, k_tb1, ()⟩ : Ads)) := ⟨⟨f12, _, ok_Book_put F12 T AF rfl M_Book_choose, ⟨a12, i12, k12⟩, bd12⟩, AF.c_Book⟩
  have b20 := F20.binds (ps := ["self", "day", "entry"]) fun _ _ _ _ _ _ => L2.bind3 fun _ _ _ => rfl
  have M_Editions_strike : Mtd l.prog w K mg base (CX1 l.prog w) k_Editions "strike" 6 ["self", "day", "entry"] (sp_Editions_strike (⟨k_Code, k_Book, k_Editions, k_CableError, k_NoCode, k_NoNumber, k_NoWord, k_NoEntry, k_Twice, k_TooMany, k_NoDay, k_cd, k_tb, k_cd1, k_tb1, ()⟩ : Ads)) := ⟨⟨f20, _, ok_Editions_strike F20 T AF M_Editions_note_change M_Book_strike M_Editions_check_change, ⟨a20, i20, k20⟩, b20⟩, AF.c_Editions⟩
  have b19 : Binds K (PySem.W.fnOf "put" "Editions.put" (defArgs s_Editions_put) (defBody s_Editions_put) (defScope s_Editions_put) (.ref dt19) kV19 dc19 pm19 an19 (.ref k_cd1) ct19) ["self", "day", "entry", "number"] [] := fun s us hK hl => match us, (show us.length = 4 by simpa using hl) with | [_, _, _, _], _ => .of_defaults rfl (hK _ _ t19) rfl rfl rfl
  have bd19 : Binds K (PySem.W.fnOf "put" "Editions.put" (defArgs s_Editions_put) (defBody s_Editions_put) (defScope s_Editions_put) (.ref dt19) kV19 dc19 pm19 an19 (.ref k_cd1) ct19) ["self", "day", "entry", "number"] [.none] := fun s us hK hl => match us, (show us.length = 3 by simpa using hl) with | [_, _, _], _ => .of_defaults rfl (hK _ _ t19) rfl rfl rfl
  have M_Editions_put : Mtd l.prog w K mg base (CX1 l.prog w) k_Editions "put" 7 ["self", "day", "entry", "number"] (sp_Editions_put (⟨k_Code, k_Book, k_Editions, k_CableError, k_NoCode, k_NoNumber, k_NoWord, k_NoEntry, k_Twice, k_TooMany, k_NoDay, k_cd, k_tb, k_cd1, k_tb1, ()⟩ : Ads)) := ⟨⟨f19, _, ok_Editions_put F19 T AF rfl M_Editions_note_change M_Book_put M_Book_choose M_Editions_is_barred M_Editions_check_change, ⟨a19, i19, k19⟩, b19⟩, AF.c_Editions⟩
  have D_Editions_put : MtdD l.prog w K mg base (CX1 l.prog w) k_Editions "put" 7 ["self", "day", "entry", "number"] (sp_Editions_put (⟨k_Code, k_Book, k_Editions, k_CableError, k_NoCode, k_NoNumber, k_NoWord, k_NoEntry, k_Twice, k_TooMany, k_NoDay, k_cd, k_tb, k_cd1, k_tb1, ()⟩ : Ads)) := ⟨⟨f19, _, ok_Editions_put F19 T AF rfl M_Editions_note_change M_Book_put M_Book_choose M_Editions_is_barred M_Editions_check_change, ⟨a19, i19, k19⟩, bd19⟩, AF.c_Editions⟩
  have b31 := F31.binds (ps := ["_law_editions", "_law_deed"]) fun _ _ _ _ _ _ => L2.bind2 fun _ _ => rfl
  have C_law_did : Fnc l.prog w K mg base (CX1 l.prog w) 8 "_law_did" ["_law_editions", "_law_deed"] (sp_law_did K (⟨k_Code, k_Book, k_Editions, k_CableError, k_NoCode, k_NoNumber, k_NoWord, k_NoEntry, k_Twice, k_TooMany, k_NoDay, k_cd, k_tb, k_cd1, k_tb1, ()⟩ : Ads)) := ⟨f31, _, ok_law_did F31 T AF M_Editions_strike M_Editions_put D_Editions_put, PySem.W.mg_of X G a31, k31, b31⟩
  have b32 := F32.binds (ps := ["_law_editions", "_law_pool_here", "_law_many_here", "_law_few", "_law_day"]) fun _ _ _ _ _ _ => L2.bind5 fun _ _ _ _ _ => rfl
  have C_law_filled : Fnc l.prog w K mg base (CX1 l.prog w) 8 "_law_filled" ["_law_editions", "_law_pool_here", "_law_many_here", "_law_few", "_law_day"] (sp_law_filled (⟨k_Code, k_Book, k_Editions, k_CableError, k_NoCode, k_NoNumber, k_NoWord, k_NoEntry, k_Twice, k_TooMany, k_NoDay, k_cd, k_tb, k_cd1, k_tb1, ()⟩ : Ads)) := ⟨f32, _, ok_law_filled F32 T AF D_Editions_put, PySem.W.mg_of X G a32, k32, b32⟩
  have b33 := F33.binds (ps := ["_law_parts", "_law_pool_here", "_law_many_here", "_law_few", "_law_day"]) fun _ _ _ _ _ _ => L2.bind5 fun _ _ _ _ _ => rfl
  have C_law_fresh : Fnc l.prog w K mg base (CX1 l.prog w) 9 "_law_fresh" ["_law_parts", "_law_pool_here", "_law_many_here", "_law_few", "_law_day"] (sp_law_fresh (⟨k_Code, k_Book, k_Editions, k_CableError, k_NoCode, k_NoNumber, k_NoWord, k_NoEntry, k_Twice, k_TooMany, k_NoDay, k_cd, k_tb, k_cd1, k_tb1, ()⟩ : Ads)) := ⟨f33, _, ok_law_fresh F33 T AF C_law_filled K_Editions K_Code, PySem.W.mg_of X G a33, k33, b33⟩
  have b34 := F34.binds (ps := ["_law_editions", "_law_one", "_law_other", "_law_day", "_law_number", "_law_few", "_law_behind"]) fun _ _ _ _ _ _ => L2.bind7 fun _ _ _ _ _ _ _ => rfl
  have C_law_kept_days : Fnc l.prog w K mg base (CX1 l.prog w) 9 "_law_kept_days" ["_law_editions", "_law_one", "_law_other", "_law_day", "_law_number", "_law_few", "_law_behind"] (sp_law_kept_days (⟨k_Code, k_Book, k_Editions, k_CableError, k_NoCode, k_NoNumber, k_NoWord, k_NoEntry, k_Twice, k_TooMany, k_NoDay, k_cd, k_tb, k_cd1, k_tb1, ()⟩ : Ads)) := ⟨f34, _, ok_law_kept_days F34 T AF C_law_did, PySem.W.mg_of X G a34, k34, b34⟩
  exact ok_law F35 T AF C_law_did C_law_fresh C_law_kept_days C_law_mixed C_law_cell_at C_law_pool C_law_many C_law_code_parts M_Editions_strike
end Kb
open PySem PySem.W PyProof.Rows
set_option maxRecDepth 100000 in
set_option maxHeartbeats 0 in
theorem Hk.top_c : Hk.top.c := by
  delta Hk.top
  dsimp only
  k_fill
  refine L2.walk_ofTs (l := PySem.Challenge.rw_cablehouse_k37_numbers_kept) (n := 63) (k := 10) (x := "_law_script") (CX := fun w => L2.CX1 PySem.Challenge.rw_cablehouse_k37_numbers_kept.prog w) (sp := fun w => Kb.sp_law _ _ _) [(_, Kb.lamQ), (_, Kb.lamQ1)] rfl (by decide) rfl ⟨rfl, by decide, by decide⟩ (by decide +kernel) (fun w h Y => ⟨PySem.W.km_in_of Y, List.forall_mem_cons.mpr ⟨PySem.W.km_tabs_of Y _ (.tail _ (.head _)), List.forall_mem_cons.mpr ⟨PySem.W.km_tabs_of Y _ (.head _), fun _ h => nomatch h⟩⟩⟩) ?F (fun w => List.forall_mem_cons.mpr ⟨by kernel_rfl, List.forall_mem_cons.mpr ⟨by kernel_rfl, fun _ h => nomatch h⟩⟩) (fun _ _ a ns hl hS hT => ⟨a, ns, rfl, hS, hl, hT _ (.head _), hT _ (.tail _ (.head _)), fun _ => rfl⟩) fun _ _ _ _ _ z => L2.cx1_false z
  case F =>
    intro w mg fa h KX G hmg
    refine' Kb.all_mk KX G hmg ?g_Code ?g_Book ?g_Editions ?g_CableError ?g_NoCode ?g_NoNumber ?g_NoWord ?g_NoEntry ?g_Twice ?g_TooMany ?g_NoDay ?a0 ?l0 ?c0 ?k0 ?a1 ?l1 ?c1 ?k1 ?a2 ?l2 ?c2 ?k2 ?a3 ?l3 ?c3 ?k3 ?a4 ?l4 ?c4 ?k4 ?a5 ?l5 ?c5 ?k5 ?a6 ?i6 ?l6 ?c6 ?k6 ?a7 ?i7 ?l7 ?c7 ?k7 ?a8 ?l8 ?c8 ?k8 ?a9 ?l9 ?c9 ?k9 ?a10 ?l10 ?c10 ?k10 ?a11 ?i11 ?l11 ?c11 ?k11 ?a12 ?i12 ?l12 ?t12 ?c12 ?k12 ?a13 ?i13 ?l13 ?c13 ?k13 ?a14 ?i14 ?l14 ?c14 ?k14 ?a15 ?i15 ?l15 ?c15 ?k15 ?a16 ?i16 ?l16 ?c16 ?k16 ?a17 ?l17 ?c17 ?k17 ?a18 ?i18 ?l18 ?c18 ?k18 ?a19 ?i19 ?l19 ?t19 ?c19 ?k19 ?a20 ?i20 ?l20 ?c20 ?k20 ?a21 ?i21 ?l21 ?c21 ?k21 ?a22 ?i22 ?l22 ?c22 ?k22 ?a23 ?i23 ?l23 ?c23 ?k23 ?a24 ?l24 ?c24 ?k24 ?a25 ?l25 ?c25 ?k25 ?a26 ?l26 ?c26 ?k26 ?a27 ?l27 ?c27 ?k27 ?a28 ?l28 ?c28 ?k28 ?a29 ?l29 ?c29 ?k29 ?a30 ?l30 ?c30 ?k30 ?a31 ?l31 ?c31 ?k31 ?a32 ?l32 ?c32 ?k32 ?a33 ?l33 ?c33 ?k33 ?a34 ?l34 ?c34 ?k34 ?a35 ?l35 ?c35 ?k35 ?pg_Code ?hd_Code ?po_Code ?sa_Code ?mk_Code ?kc_Code ?n_Code_letters ?n_Code_factors ?n_Code_remainder ?pg_Book ?hd_Book ?po_Book ?sa_Book ?mk_Book ?kc_Book ?n_Book_basis ?n_Book_by_number ?n_Book_by_entry ?pg_Editions ?hd_Editions ?po_Editions ?sa_Editions ?mk_Editions ?kc_Editions ?n_Editions_current ?n_Editions_changes ?n_Editions_struck ?n_Editions_latest ?q_NoCode ?q_NoNumber ?q_NoWord ?q_NoEntry ?q_Twice ?q_TooMany ?q_NoDay ?tab ?tab1 ?err ?ndx ?v_SMALL_LETTERS ?r_SMALL_LETTERS ?v_LONGEST_WORD ?r_LONGEST_WORD ?v_MOST_ENTRIES ?r_MOST_ENTRIES ?v_MOST_PHRASE_WORDS ?r_MOST_PHRASE_WORDS ?v_MOST_PART_LETTERS ?r_MOST_PART_LETTERS ?v_LATEST_DAY ?r_LATEST_DAY ?v_DAYS_BARRED ?r_DAYS_BARRED ?z_isinstance ?z_bool ?z_int ?z_abs ?z_all ?z_zip ?z_len ?z_set ?z_str ?z_list ?z_tuple ?z_range ?z_ValueError ?z_max ?z_min
    (case g_Code => k_is)
    (case g_Book => k_is)
    (case g_Editions => k_is)
    (case g_CableError => k_is)
    (case g_NoCode => k_is)
    (case g_NoNumber => k_is)
    (case g_NoWord => k_is)
    (case g_NoEntry => k_is)
    (case g_Twice => k_is)
    (case g_TooMany => k_is)
    (case g_NoDay => k_is)
    (case a0 => k_is)
    (case l0 => k_is)
    (case c0 => k_is)
    (case k0 => k_is)
    (case a1 => k_is)
    (case l1 => k_is)
    (case c1 => k_is)
    (case k1 => k_is)
    (case a2 => k_is)
    (case l2 => k_is)
    (case c2 => k_is)
    (case k2 => k_is)
    (case a3 => k_is)
    (case l3 => k_is)
    (case c3 => k_is)
    (case k3 => k_is)
    (case a4 => k_is)
    (case l4 => k_is)
    (case c4 => k_is)
    (case k4 => k_is)
    (case a5 => k_is)
    (case l5 => k_is)
    (case c5 => k_is)
    (case k5 => k_is)
    (case a6 => k_is)
    (case i6 => k_is)
    (case l6 => k_is)
    (case c6 => k_is)
    (case k6 => k_is)
    (case a7 => k_is)
    (case i7 => k_is)
    (case l7 => k_is)
    (case c7 => k_is)
    (case k7 => k_is)
    (case a8 => k_is)
    (case l8 => k_is)
    (case c8 => k_is)
    (case k8 => k_is)
    (case a9 => k_is)
    (case l9 => k_is)
    (case c9 => k_is)
    (case k9 => k_is)
    (case a10 => k_is)
    (case l10 => k_is)
    (case c10 => k_is)
    (case k10 => k_is)
    (case a11 => k_is)
    (case i11 => k_is)
    (case l11 => k_is)
    (case c11 => k_is)
    (case k11 => k_is)
    (case a12 => k_is)
    (case i12 => k_is)
    (case l12 => k_is)
    (case t12 => k_is)
    (case c12 => k_is)
    (case k12 => k_is)
    (case a13 => k_is)
    (case i13 => k_is)
    (case l13 => k_is)
    (case c13 => k_is)
    (case k13 => k_is)
    (case a14 => k_is)
    (case i14 => k_is)
    (case l14 => k_is)
    (case c14 => k_is)
    (case k14 => k_is)
    (case a15 => k_is)
    (case i15 => k_is)
    (case l15 => k_is)
    (case c15 => k_is)
    (case k15 => k_is)
    (case a16 => k_is)
    (case i16 => k_is)
    (case l16 => k_is)
    (case c16 => k_is)
    (case k16 => k_is)
    (case a17 => k_is)
    (case l17 => k_is)
    (case c17 => k_is)
    (case k17 => k_is)
    (case a18 => k_is)
    (case i18 => k_is)
    (case l18 => k_is)
    (case c18 => k_is)
    (case k18 => k_is)
    (case a19 => k_is)
    (case i19 => k_is)
    (case l19 => k_is)
    (case t19 => k_is)
    (case c19 => k_is)
    (case k19 => k_is)
    (case a20 => k_is)
    (case i20 => k_is)
    (case l20 => k_is)
    (case c20 => k_is)
    (case k20 => k_is)
    (case a21 => k_is)
    (case i21 => k_is)
    (case l21 => k_is)
    (case c21 => k_is)
    (case k21 => k_is)
    (case a22 => k_is)
    (case i22 => k_is)
    (case l22 => k_is)
    (case c22 => k_is)
    (case k22 => k_is)
    (case a23 => k_is)
    (case i23 => k_is)
    (case l23 => k_is)
    (case c23 => k_is)
    (case k23 => k_is)
    (case a24 => k_is)
    (case l24 => k_is)
    (case c24 => k_is)
    (case k24 => k_is)
    (case a25 => k_is)
    (case l25 => k_is)
    (case c25 => k_is)
    (case k25 => k_is)
    (case a26 => k_is)
    (case l26 => k_is)
    (case c26 => k_is)
    (case k26 => k_is)
    (case a27 => k_is)
    (case l27 => k_is)
    (case c27 => k_is)
    (case k27 => k_is)
    (case a28 => k_is)
    (case l28 => k_is)
    (case c28 => k_is)
    (case k28 => k_is)
    (case a29 => k_is)
    (case l29 => k_is)
    (case c29 => k_is)
    (case k29 => k_is)
    (case a30 => k_is)
    (case l30 => k_is)
    (case c30 => k_is)
    (case k30 => k_is)
    (case a31 => k_is)
    (case l31 => k_is)
    (case c31 => k_is)
    (case k31 => k_is)
    (case a32 => k_is)
    (case l32 => k_is)
    (case c32 => k_is)
    (case k32 => k_is)
    (case a33 => k_is)
    (case l33 => k_is)
    (case c33 => k_is)
    (case k33 => k_is)
    (case a34 => k_is)
    (case l34 => k_is)
    (case c34 => k_is)
    (case k34 => k_is)
    (case a35 => k_is)
    (case l35 => k_is)
    (case c35 => k_is)
    (case k35 => k_is)
    (case pg_Code => k_is)
    (case hd_Code => k_is)
    (case po_Code => k_is)
    (case sa_Code => k_is)
    (case mk_Code => k_is)
    (case kc_Code => k_is)
    (case n_Code_letters => k_is)
    (case n_Code_factors => k_is)
    (case n_Code_remainder => k_is)
    (case pg_Book => k_is)
    (case hd_Book => k_is)
    (case po_Book => k_is)
    (case sa_Book => k_is)
    (case mk_Book => k_is)
    (case kc_Book => k_is)
    (case n_Book_basis => k_is)
    (case n_Book_by_number => k_is)
    (case n_Book_by_entry => k_is)
    (case pg_Editions => k_is)
    (case hd_Editions => k_is)
    (case po_Editions => k_is)
    (case sa_Editions => k_is)
    (case mk_Editions => k_is)
    (case kc_Editions => k_is)
    (case n_Editions_current => k_is)
    (case n_Editions_changes => k_is)
    (case n_Editions_struck => k_is)
    (case n_Editions_latest => k_is)
    (case q_NoCode => kernel_rfl)
    (case q_NoNumber => kernel_rfl)
    (case q_NoWord => kernel_rfl)
    (case q_NoEntry => kernel_rfl)
    (case q_Twice => kernel_rfl)
    (case q_TooMany => kernel_rfl)
    (case q_NoDay => kernel_rfl)
    (case tab => kernel_rfl)
    (case tab1 => kernel_rfl)
    (case err => kernel_rfl)
    (case ndx => kernel_rfl)
    (case v_SMALL_LETTERS => k_is)
    (case r_SMALL_LETTERS => exact ⟨_, rfl⟩)
    (case v_LONGEST_WORD => k_is)
    (case r_LONGEST_WORD => exact ⟨_, rfl⟩)
    (case v_MOST_ENTRIES => k_is)
    (case r_MOST_ENTRIES => exact ⟨_, rfl⟩)
    (case v_MOST_PHRASE_WORDS => k_is)
    (case r_MOST_PHRASE_WORDS => exact ⟨_, rfl⟩)
    (case v_MOST_PART_LETTERS => k_is)
    (case r_MOST_PART_LETTERS => exact ⟨_, rfl⟩)
    (case v_LATEST_DAY => k_is)
    (case r_LATEST_DAY => exact ⟨_, rfl⟩)
    (case v_DAYS_BARRED => k_is)
    (case r_DAYS_BARRED => exact ⟨_, rfl⟩)
    (case z_isinstance => k_is)
    (case z_bool => k_is)
    (case z_int => k_is)
    (case z_abs => k_is)
    (case z_all => k_is)
    (case z_zip => k_is)
    (case z_len => k_is)
    (case z_set => k_is)
    (case z_str => k_is)
    (case z_list => k_is)
    (case z_tuple => k_is)
    (case z_range => k_is)
    (case z_ValueError => k_is)
    (case z_max => k_is)
    (case z_min => k_is)
theorem PySem.Challenge.cw_cablehouse_k37_numbers_kept_holds : PySem.Challenge.rw_cablehouse_k37_numbers_kept.Holds :=
  Hk.top.go Hk.top_1 Hk.top_2 Hk.top_3 Hk.top_4 Hk.top_5 Hk.top_6 Hk.top_7 Hk.top_8 Hk.top_h Hk.top_c
