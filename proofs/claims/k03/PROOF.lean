import PyProof.Rows.All
import Wide.All
import OpenK.AllK
import Wide.FinOn
import Lean
import PyProof.EqAt
import PyProof.EqKinds
import PyProof.TupleCall
import PySem.Challenge.RW_cablehouse_k03_pairs_a_fault_apart
-- CHANGE: your row's module here, as the last of these rows
set_option Elab.async false
set_option linter.all false
set_option maxRecDepth 100000
namespace L2
open PySem PySem.Spec PyProof.Rows

abbrev Key := Sum Int Str
def keyIs : Key → Value → Bool
  | .inl k, v => Value.isInt k v
  | .inr x, v => Value.isStrOf x v
def keyH (w : World) : Key → Int
  | .inl k => hashInt k
  | .inr x => hashStr w x
theorem keyIs_shape : ∀ {k : Key} {v : Value}, keyIs k v = true → (∃ i t, k = Sum.inl i ∧ v = Value.int i t) ∨ (∃ x t, k = Sum.inr x ∧ v = Value.str x t)
  | .inl i, v, h => by
    obtain ⟨t, e⟩ := Value.isInt_shape (k := i) (v := v) h
    exact .inl ⟨i, t, rfl, e⟩
  | .inr x, v, h => by
    obtain ⟨t, e⟩ := Value.isStrOf_shape (x := x) (v := v) h
    exact .inr ⟨x, t, rfl, e⟩
theorem keyIs_int (i : Int) (t : Tok) : keyIs (.inl i) (.int i t) = true := by simp [keyIs, Value.isInt]
theorem keyIs_str (x : Str) (t : Tok) : keyIs (.inr x) (.str x t) = true := by simp [keyIs, Value.isStrOf]
theorem key_ll (a b : Int) : decide ((Sum.inl a : Key) = Sum.inl b) = (a == b) := by
  by_cases e : a = b
  · subst e; simp
  · have h : ¬ (Sum.inl a : Key) = Sum.inl b := fun q => e (Sum.inl.inj q)
    rw [decide_eq_false h]
    exact (beq_eq_false_iff_ne.mpr e).symm
theorem key_rr (a b : Str) : decide ((Sum.inr a : Key) = Sum.inr b) = decide (a = b) := by
  by_cases e : a = b
  · subst e; simp
  · have h : ¬ (Sum.inr a : Key) = Sum.inr b := fun q => e (Sum.inr.inj q)
    rw [decide_eq_false h, decide_eq_false e]
theorem key_lr (a : Int) (b : Str) : decide ((Sum.inl a : Key) = Sum.inr b) = false := decide_eq_false (fun q => nomatch q)
theorem key_rl (a : Str) (b : Int) : decide ((Sum.inr a : Key) = Sum.inl b) = false := decide_eq_false (fun q => nomatch q)

def mixKind (prog : Program) (w : World) : PySem.KeyKind prog w Key where
  is := keyIs
  hash := keyH w
  inj := fun v a b ha hb => by
    rcases keyIs_shape ha with ⟨i, t, rfl, rfl⟩ | ⟨x, t, rfl, rfl⟩
    · rcases keyIs_shape hb with ⟨j, u, rfl, e⟩ | ⟨y, u, rfl, e⟩
      · injection e with e1 _; rw [e1]
      · exact nomatch e
    · rcases keyIs_shape hb with ⟨j, u, rfl, e⟩ | ⟨y, u, rfl, e⟩
      · exact nomatch e
      · injection e with e1 _; rw [e1]
  byValue := fun k v h => by
    rcases keyIs_shape h with ⟨i, t, rfl, rfl⟩ | ⟨x, t, rfl, rfl⟩ <;> rfl
  pyHash := fun hv h => by
    rcases keyIs_shape hv with ⟨i, t, rfl, rfl⟩ | ⟨x, t, rfl, rfl⟩
    · exact wpAny_pyHash_int h
    · exact wpAny_pyHash_str h
  eqBool := fun hu hv h => by
    rcases keyIs_shape hu with ⟨i, t, rfl, rfl⟩ | ⟨x, t, rfl, rfl⟩
    · rcases keyIs_shape hv with ⟨j, u, rfl, rfl⟩ | ⟨y, u, rfl, rfl⟩
      · rw [key_ll] at h; exact wpAny_eqBool_int h
      · rw [key_lr] at h; exact SeqAt.EqAt.int_str i t y u _ _ _ _ h
    · rcases keyIs_shape hv with ⟨j, u, rfl, rfl⟩ | ⟨y, u, rfl, rfl⟩
      · rw [key_rl] at h; exact SeqAt.EqAt.str_int x t j u _ _ _ _ h
      · rw [key_rr] at h; exact wpAny_eqBool_str h
  «strs» := fun k x t v h => by
    rcases keyIs_shape h with ⟨i, u, rfl, e⟩ | ⟨y, u, rfl, e⟩
    · exact nomatch e
    · injection e with e1 _
      subst e1
      cases v <;> rfl

theorem mixKind_int (prog : Program) (w : World) (i : Int) (t : Tok) : (mixKind prog w).is (.inl i) (.int i t) = true := keyIs_int i t
theorem mixKind_str (prog : Program) (w : World) (x : Str) (t : Tok) : (mixKind prog w).is (.inr x) (.str x t) = true := keyIs_str x t
end L2

namespace L2
open PySem PySem.Spec PyProof.Rows

inductive V where
  | non | bl (b : Bool) | int (i : Int) | str (x : Str) | byt (b : Array UInt8) | flt (b : UInt64) | ref (a : Addr) | ty (n : String)
  deriving DecidableEq

def RelV : V → Value → Prop
  | .non, u => u = Value.none
  | .bl b, u => u = Value.bool b
  | .int i, u => ∃ t, u = Value.int i t
  | .str x, u => ∃ t, u = Value.str x t
  | .byt b, u => ∃ t, u = Value.bytes b t
  | .flt b, u => ∃ t, u = Value.float b t
  | .ref a, u => u = Value.ref a
  | .ty n, u => u = Value.type n

abbrev Vals : List V → List Value → Prop := Paired RelV
theorem Vals.length {xs : List V} {us : List Value} (r : Vals xs us) : xs.length = us.length := Paired.length r
theorem Vals.get : ∀ {xs : List V} {us : List Value} {i : Nat} {x : V}, Vals xs us → xs[i]? = some x → ∃ u, us[i]? = some u ∧ RelV x u
  | _, _, _, _, .nil, e => by simp at e
  | _, _, 0, _, .cons r _, e => by simp at e; subst e; exact ⟨_, rfl, r⟩
  | _, _, i + 1, x, .cons _ t, e => by
    obtain ⟨u, h1, h2⟩ := Vals.get (i := i) (x := x) t (by simpa using e)
    exact ⟨u, by simpa using h1, h2⟩
theorem Vals.set {x : V} {u : Value} (r : RelV x u) : ∀ {xs : List V} {us : List Value} (i : Nat), Vals xs us → Vals (xs.set i x) (us.set i u)
  | _, _, _, .nil => .nil
  | _, _, 0, .cons _ t => .cons r t
  | _, _, i + 1, .cons q t => .cons q (Vals.set r i t)
theorem Vals.append : ∀ {xs ys : List V} {us ws : List Value}, Vals xs us → Vals ys ws → Vals (xs ++ ys) (us ++ ws)
  | _, _, _, _, .nil, s => s
  | _, _, _, _, .cons r t, s => .cons r (Vals.append t s)
theorem Vals.take : ∀ {xs : List V} {us : List Value} (n : Nat), Vals xs us → Vals (xs.take n) (us.take n)
  | _, _, 0, _ => .nil
  | _, _, _ + 1, .nil => .nil
  | _, _, n + 1, .cons r t => .cons r (Vals.take n t)
theorem Vals.drop : ∀ {xs : List V} {us : List Value} (n : Nat), Vals xs us → Vals (xs.drop n) (us.drop n)
  | _, _, 0, r => r
  | _, _, _ + 1, .nil => .nil
  | _, _, n + 1, .cons _ t => Vals.drop n t
theorem Vals.none_of : ∀ {xs : List V} {us : List Value} {i : Nat}, Vals xs us → xs[i]? = none → us[i]? = none := fun {xs us i} r e => by
  have h1 := r.length
  have h2 : xs.length ≤ i := List.getElem?_eq_none_iff.mp e
  exact List.getElem?_eq_none_iff.mpr (by omega)

def RelO : Option V → Option Value → Prop
  | some v, some u => RelV v u
  | none, none => True
  | _, _ => False
def KV {κ : Type} : List (κ × V) → List (κ × Value) → Prop := Paired fun (p : κ × V) (q : κ × Value) => p.1 = q.1 ∧ RelV p.2 q.2

def kV : Key → V
  | .inl i => .int i
  | .inr x => .str x

inductive HO where
  /-- a list -/
  | lst (xs : List V)
  /-- a tuple (never changes) -/
  | tup (xs : List V)
  /-- a dict whose keys are ints and texts; one whose keys are tuples of ints and texts (the empty one is both) -/
  | dK (kvs : List (Key × V)) | dT (kvs : List (List Key × V))
  /-- a set of ints: its members, its size -/
  | set (S : Int → Bool) (n : Nat)
  /-- an instance of the class at C, its dict at dx, its attributes -/
  | ins (C dx : Addr) (fs : List (Str × V))
  /-- the dict of the instance at x -/
  | own (x : Addr)
  /-- the dict of an exception -/
  | xd (fs : List (Str × V))
  /-- a bound method, f of x -/
  | met (f x : Addr)
  /-- a range object lo, lo + 1, .. below hi -/
  | rng (lo hi : Int)
  /-- a thing that is known to the object (the script; a dict while a loop walks it): read, never written while it is so -/
  | frz (o : Obj) (u : HO)
  /-- a code object's table -/
  | tbl (ps : Array Value)
  /-- any other thing, by what is true of its one object (a def of one's own: SetO a S n := HO.ext fun h => ..) -/
  | ext (φ : Heap → Prop)

abbrev Hp := Addr → Option HO
def upd (H : Hp) (a : Addr) (o : HO) : Hp := fun b => if b = a then some o else H b
theorem upd_same {H : Hp} {a : Addr} {o : HO} : upd H a o a = some o := by unfold upd; rw [if_pos rfl]
theorem upd_ne {H : Hp} {a b : Addr} {o : HO} (h : b ≠ a) : upd H a o b = H b := by unfold upd; rw [if_neg h]
theorem ne_of_none {H : Hp} {a b : Addr} {o : HO} (h : H a = some o) (h' : H b = none) : a ≠ b := by
  intro e; subst e; rw [h] at h'; cases h'

section
variable (P : Program) (w : World)
def ObjOk (H : Hp) (h : Heap) (a : Addr) : HO → Prop
  | .lst xs => xs.length ≤ sizeLine ∧ ∃ (its : List Value) (n : Nat), Vals xs its ∧ h.get? a = some { cls := .type "list", data := .seq its.toArray n }
  | .tup xs => xs.length ≤ sizeLine ∧ ∃ its : List Value, Vals xs its ∧ IsTup h a its.toArray
  | .dK kvs => kvs.length ≤ sizeLine ∧ (a == sysModules) = false ∧ ∃ vs, KV kvs vs ∧ h.DictOf (mixKind P w) a vs
  | .dT kvs => kvs.length ≤ sizeLine ∧ (a == sysModules) = false ∧ ∃ xs : List (List Key × Addr × Value),
      Paired (fun (p : List Key × V) (q : List Key × Addr × Value) => p.1 = q.1 ∧ H q.2.1 = some (.tup (p.1.map kV)) ∧ RelV p.2 q.2.2) kvs xs ∧
      ∃ o es ep, h.get? a = some o ∧ o.ExactDict ∧ o.data = .dict es ep ∧ es.toList = xs.map (entryOfKey (tupleKind (mixKind P w))) ∧ (xs.map (·.1)).Nodup
  | .set S n => h.SetOf (intKind P w) a S n
  | .ins C dx fs => H dx = some (.own a) ∧ fs.length ≤ 1000 ∧ dx ≠ a ∧ h.get? a = some (PySem.W.instObj C dx) ∧
      ∃ mA, h.Ns1 dx mA ∧ (∀ f, RelO (fs.lookup f) (mA f)) ∧ PySem.Within mA (fs.map (·.1))
  | .own _ => ∃ o, h.get? a = some o
  | .xd fs => ∃ mA, h.Ns1 a mA ∧ ∀ f, RelO (fs.lookup f) (mA f)
  | .rng lo hi => ∃ t u v, h.get? a = some { cls := .type "range", data := .fields #[.int lo t, .int hi u, .int 1 v] }
  | .frz o u => h.get? a = some o ∧ ObjOk H h a u
  | .tbl ps => h.get? a = some { cls := .none, data := .fields ps }
  | .met f x => h.get? a = some (PySem.W.methodObj (.ref f) (.ref x))
  | .ext φ => φ h ∧ (∃ o, h.get? a = some o) ∧ ∀ h1 h2 : Heap, φ h1 → (∀ o, h1.get? a = some o → h2.get? a = some o) → φ h2
def HOk (H : Hp) (h : Heap) : Prop := ∀ a o, H a = some o → ObjOk P w H h a o
end

section
variable {P : Program} {w : World} {H H' : Hp} {h h' : Heap} {a : Addr} {o : HO}
theorem ObjOk.lt (x : ObjOk P w H h a o) : a < h.objs.size := by
  cases o with
  | lst xs => obtain ⟨_, _, _, _, e⟩ := x; exact Heap.lt_size e
  | tup xs => obtain ⟨_, _, _, p⟩ := x; exact p.lt
  | dK kvs => obtain ⟨_, _, _, _, o, _, _, e, _⟩ := x; exact Heap.lt_size e
  | dT kvs => obtain ⟨_, _, _, _, o, _, _, e, _⟩ := x; exact Heap.lt_size e
  | set S n => obtain ⟨o, _, _, _, e, _⟩ := x; exact Heap.lt_size e
  | ins C dx fs => obtain ⟨_, _, _, e, _⟩ := x; exact Heap.lt_size e
  | own y => obtain ⟨_, e⟩ := x; exact Heap.lt_size e
  | xd fs => obtain ⟨_, ⟨_, _, _, e, _⟩, _⟩ := x; exact Heap.lt_size e
  | rng lo hi => obtain ⟨_, _, _, e⟩ := x; exact Heap.lt_size e
  | frz ob u => obtain ⟨e, _⟩ := x; exact Heap.lt_size e
  | tbl ps => exact Heap.lt_size (show h.get? a = some _ from x)
  | met f y => exact Heap.lt_size (show h.get? a = some _ from x)
  | ext φ => obtain ⟨_, ⟨_, e⟩, _⟩ := x; exact Heap.lt_size e
theorem Paired.mapP {α β : Type} {F G : α → β → Prop} : ∀ {l₁ : List α} {l₂ : List β}, Paired F l₁ l₂ → (∀ a b, F a b → G a b) → Paired G l₁ l₂
  | _, _, .nil, _ => .nil
  | _, _, .cons r t, f => .cons (f _ _ r) (Paired.mapP t f)
theorem ObjOk.stay (x : ObjOk P w H h a o) (k : ∀ b u, (b = a ∨ H b = some (.own a)) → h.get? b = some u → h'.get? b = some u)
    (ho : ∀ b, H b = some (.own a) → H' b = some (.own a)) (ht : ∀ b xs, H b = some (.tup xs) → H' b = some (.tup xs)) : ObjOk P w H' h' a o := by
  induction o with
  | lst xs => obtain ⟨z, its, n, r, e⟩ := x; exact ⟨z, its, n, r, k _ _ (.inl rfl) e⟩
  | tup xs => obtain ⟨z, its, r, ob, e, c⟩ := x; exact ⟨z, its, r, ob, k _ _ (.inl rfl) e, c⟩
  | dK kvs => obtain ⟨z, y, vs, r, ob, es, ep, e, c⟩ := x; exact ⟨z, y, vs, r, ob, es, ep, k _ _ (.inl rfl) e, c⟩
  | dT kvs =>
    obtain ⟨z, y, xs, r, ob, es, ep, e, c⟩ := x
    exact ⟨z, y, xs, Paired.mapP r fun p q z => ⟨z.1, ht _ _ z.2.1, z.2.2⟩, ob, es, ep, k _ _ (.inl rfl) e, c⟩
  | set S n => obtain ⟨ob, es, ep, t, e, c⟩ := x; exact ⟨ob, es, ep, t, k _ _ (.inl rfl) e, c⟩
  | ins C dx fs =>
    obtain ⟨d, z, ne, e, mA, ⟨od, es, ep, e2, c⟩, r⟩ := x
    exact ⟨ho _ d, z, ne, k _ _ (.inl rfl) e, mA, ⟨od, es, ep, k _ _ (.inr d) e2, c⟩, r⟩
  | own y => obtain ⟨ob, e⟩ := x; exact ⟨ob, k _ _ (.inl rfl) e⟩
  | xd fs => obtain ⟨mA, ⟨od, es, ep, e, c⟩, r⟩ := x; exact ⟨mA, ⟨od, es, ep, k _ _ (.inl rfl) e, c⟩, r⟩
  | rng lo hi => obtain ⟨t, u, v, e⟩ := x; exact ⟨t, u, v, k _ _ (.inl rfl) e⟩
  | frz ob u ih => obtain ⟨e, q⟩ := x; exact ⟨k _ _ (.inl rfl) e, ih q⟩
  | tbl ps =>
    have e : h.get? a = some { cls := .none, data := .fields ps } := x
    show h'.get? a = some { cls := .none, data := .fields ps }
    exact k a _ (.inl rfl) e
  | met f y =>
    have e : h.get? a = some (PySem.W.methodObj (.ref f) (.ref y)) := x
    show h'.get? a = some (PySem.W.methodObj (.ref f) (.ref y))
    exact k a _ (.inl rfl) e
  | ext φ => obtain ⟨p, ⟨o, e⟩, st⟩ := x; exact ⟨st _ _ p fun o q => k _ _ (.inl rfl) q, ⟨o, k _ _ (.inl rfl) e⟩, st⟩
theorem HOk.lt (x : HOk P w H h) (e : H a = some o) : a < h.objs.size := (x a o e).lt
theorem HOk.fresh (x : HOk P w H h) (e : h.objs.size ≤ a) : H a = none := by
  cases q : H a with
  | none => rfl
  | some u => exact absurd (Nat.lt_of_lt_of_le (x.lt q) e) (Nat.lt_irrefl _)
theorem HOk.kept (x : HOk P w H h) (k : ∀ b u, h.get? b = some u → h'.get? b = some u) : HOk P w H h' := fun a o e =>
  (x a o e).stay (fun b u _ q => k b u q) (fun _ q => q) fun _ _ q => q
theorem HOk.laid (x : HOk P w H h) (k : ∀ b u, h.get? b = some u → h'.get? b = some u) (hp : h.objs.size ≤ a) (new : ObjOk P w (upd H a o) h' a o) : HOk P w (upd H a o) h' := fun b u e => by
  have hn := x.fresh hp
  by_cases hb : b = a
  · subst hb; rw [upd_same] at e; cases e; exact new
  · rw [upd_ne hb] at e
    exact (x b u e).stay (fun c v _ q => k c v q) (fun c q => by rw [upd_ne (ne_of_none q hn)]; exact q) fun c xs q => by rw [upd_ne (ne_of_none q hn)]; exact q
end

def Rd (H : Hp) (a : Addr) (u : HO) : Prop := H a = some u ∨ ∃ o, H a = some (.frz o u)
theorem Rd.of {H : Hp} {a : Addr} {u : HO} (h : H a = some u) : Rd H a u := .inl h
theorem Rd.ok {P : Program} {w : World} {H : Hp} {h : Heap} {a : Addr} {u : HO} (r : Rd H a u) (x : HOk P w H h) : ObjOk P w H h a u := by
  rcases r with r | ⟨o, r⟩
  · exact x a u r
  · obtain ⟨_, q⟩ := x a _ r
    exact q
def Mut : Option HO → Prop
  | some (.lst _) => True
  | some (.dK _) => True
  | some (.dT _) => True
  | some (.set _ _) => True
  | some (.ins _ _ _) => True
  | some (.ext _) => True
  | _ => False
section
variable {P : Program} {w : World} {H : Hp} {h h' : Heap} {x e : Addr} {o' : HO}
theorem HOk.write (ok : HOk P w H h) (mu : Mut (H x)) (he : e = x ∨ H e = some (.own x)) (k : ∀ b u, b ≠ e → h.get? b = some u → h'.get? b = some u) (heo : ∃ u, h'.get? e = some u)
    (new : ObjOk P w (upd H x o') h' x o') : HOk P w (upd H x o') h' := fun b u q => by
  have nown : ∀ c y, H c = some (.own y) → c ≠ x := fun c y r z => by subst z; rw [r] at mu; exact mu
  have ntup : ∀ c xs, H c = some (.tup xs) → c ≠ x := fun c xs r z => by subst z; rw [r] at mu; exact mu
  by_cases hb : b = x
  · subst hb; rw [upd_same] at q; cases q; exact new
  · rw [upd_ne hb] at q
    by_cases hbe : b = e
    · have q' : H b = some (.own x) := by
        rcases he with z | z
        · exact absurd (hbe.trans z) hb
        · rw [hbe]; exact z
      rw [q] at q'; cases q'
      obtain ⟨v, hv⟩ := heo
      exact ⟨v, by rw [hbe]; exact hv⟩
    · refine (ok b u q).stay (fun c v hc r => k c v ?_ r) (fun c r => by rw [upd_ne (nown c b r)]; exact r) fun c xs r => by rw [upd_ne (ntup c xs r)]; exact r
      rcases hc with rfl | hc
      · exact hbe
      · rintro rfl
        rcases he with z | z
        · exact nown c b hc z
        · rw [hc] at z; cases z; exact hb rfl
end

structure Un (fs ex : List Addr) (H H' : Hp) (h h' : Heap) : Prop where
  keep : ∀ b o, h.get? b = some o → H b = none → b ∉ fs → b ∉ ex → h'.get? b = some o
  slot : ∀ b o, h.get? b = some o → H b = none → b ∈ fs → b ∉ ex → ∃ sl, h'.get? b = some { o with slots := sl }
  free : ∀ b o, h.get? b = some o → H b = none → b ∉ ex → H' b = none
  there : ∀ b o, h.get? b = some o → b ∉ ex → ∃ o', h'.get? b = some o'
  tups : ∀ b xs, H b = some (.tup xs) → H' b = some (.tup xs)
  frzs : ∀ b o u, H b = some (.frz o u) → H' b = some (.frz o u)
  tbls : ∀ b ps, H b = some (.tbl ps) → ∃ more, H' b = some (.tbl (ps ++ more))
section
variable {fs fs' ex ex' : List Addr} {H H1 H2 : Hp} {h h1 h2 h' : Heap} {a x e : Addr} {o : HO}
theorem Un.any (u : Un fs ex H H1 h h1) {b : Addr} {ob : Obj} (q : h.get? b = some ob) (n : H b = none) (hx : b ∉ ex) : ∃ sl, h1.get? b = some { ob with slots := sl } := by
  by_cases hb : b ∈ fs
  · exact u.slot b ob q n hb hx
  · exact ⟨ob.slots, u.keep b ob q n hb hx⟩
theorem Un.trans (a : Un fs ex H H1 h h1) (b : Un fs ex H1 H2 h1 h2) : Un fs ex H H2 h h2 where
  keep := fun c ob q n hc hx => b.keep c ob (a.keep c ob q n hc hx) (a.free c ob q n hx) hc hx
  slot := fun c ob q n hc hx => by
    obtain ⟨sl, e1⟩ := a.slot c ob q n hc hx
    obtain ⟨sl', e2⟩ := b.slot c _ e1 (a.free c ob q n hx) hc hx
    exact ⟨sl', e2⟩
  free := fun c ob q n hx => by
    obtain ⟨o', e1⟩ := a.there c ob q hx
    exact b.free c o' e1 (a.free c ob q n hx) hx
  there := fun c ob q hx => by
    obtain ⟨o', e1⟩ := a.there c ob q hx
    exact b.there c o' e1 hx
  tups := fun c xs q => b.tups c xs (a.tups c xs q)
  frzs := fun c ob xs q => b.frzs c ob xs (a.frzs c ob xs q)
  tbls := fun c ps q => by
    obtain ⟨m1, e1⟩ := a.tbls c ps q
    obtain ⟨m2, e2⟩ := b.tbls c _ e1
    exact ⟨m1 ++ m2, by rw [e2, Array.append_assoc]⟩
theorem Un.kept (k : ∀ b u, h.get? b = some u → h'.get? b = some u) : Un fs ex H H h h' :=
  ⟨fun b ob q _ _ _ => k b ob q, fun b ob q _ _ _ => ⟨ob.slots, k b ob q⟩, fun _ _ _ n _ => n, fun b ob q _ => ⟨ob, k b ob q⟩, fun _ _ q => q, fun _ _ _ q => q, fun _ ps q => ⟨#[], by rw [q]; simp⟩⟩
theorem Un.refl : Un fs ex H H h h := Un.kept fun _ _ q => q
theorem Un.laid (k : ∀ b u, h.get? b = some u → h'.get? b = some u) (hp : h.objs.size ≤ a) (hn : H a = none) : Un fs ex H (upd H a o) h h' where
  keep := fun b u q _ _ _ => k b u q
  slot := fun b u q _ _ _ => ⟨u.slots, k b u q⟩
  free := fun b u q n _ => by rw [upd_ne (Nat.ne_of_lt (Nat.lt_of_lt_of_le (Heap.lt_size q) hp))]; exact n
  there := fun b u q _ => ⟨u, k b u q⟩
  tups := fun b xs q => by rw [upd_ne (ne_of_none q hn)]; exact q
  frzs := fun b u xs q => by rw [upd_ne (ne_of_none q hn)]; exact q
  tbls := fun b ps q => ⟨#[], by rw [upd_ne (ne_of_none q hn), q]; simp⟩
theorem Un.write (mu : Mut (H x)) (he : e = x ∨ H e = some (.own x)) (k : ∀ b u, b ≠ e → h.get? b = some u → h'.get? b = some u) (heo : ∃ u, h'.get? e = some u) : Un fs ex H (upd H x o) h h' := by
  have hx : ∀ b, H b = none → b ≠ x := fun b n z => by subst z; rw [n] at mu; exact mu
  have hb : ∀ b, H b = none → b ≠ e := fun b n z => by
    subst z
    rcases he with r | r
    · exact hx b n r
    · rw [n] at r; cases r
  have hm : ∀ b u, H b = some u → ¬ Mut (some u) → b ≠ x := fun b u q nm z => by subst z; rw [q] at mu; exact nm mu
  refine ⟨fun b u q n _ _ => k b u (hb b n) q, fun b u q n _ _ => ⟨u.slots, k b u (hb b n) q⟩, fun b u q n _ => by rw [upd_ne (hx b n)]; exact n, fun b u q _ => ?_,
    fun b xs q => by rw [upd_ne (hm b _ q fun z => z)]; exact q, fun b u xs q => by rw [upd_ne (hm b _ q fun z => z)]; exact q, fun b ps q => ⟨#[], by rw [upd_ne (hm b _ q fun z => z), q]; simp⟩⟩
  by_cases hbe : b = e
  · subst hbe; exact heo
  · exact ⟨u, k b u hbe q⟩
theorem Un.mono (u : Un fs ex H H1 h h1) (hs : ∀ b ∈ fs, b ∈ fs') (hx : ∀ b ∈ ex, b ∈ ex') : Un fs' ex' H H1 h h1 :=
  ⟨fun b ob q n hb he => u.keep b ob q n (fun z => hb (hs b z)) fun z => he (hx b z), fun _ _ q n _ he => u.any q n fun z => he (hx _ z), fun b ob q n he => u.free b ob q n fun z => he (hx b z), fun b ob q he => u.there b ob q fun z => he (hx b z), u.tups, u.frzs, u.tbls⟩
end

def trk (h : Heap) (H : Hp) : List Addr := (List.range h.objs.size).filter fun a => (H a).isSome
def hidT (h : Heap) (H : Hp) : Heap := PySem.W.hideAll h (trk h H)
theorem hidT_size (h : Heap) (H : Hp) : (hidT h H).objs.size = h.objs.size := PySem.W.hideAll_size _ _
theorem hidT_get {h : Heap} {H : Hp} {b : Addr} {o : Obj} (e : h.get? b = some o) (n : H b = none) : (hidT h H).get? b = some o :=
  PySem.W.hideAll_get _ e fun hm => by
    have q : (H b).isSome = true := (List.mem_filter.mp hm).2
    rw [n] at q; simp at q
theorem of_hidT {h : Heap} {H : Hp} {b : Addr} {o : Obj} (e : (hidT h H).get? b = some o) : h.get? b = some o ∧ H b = none := by
  have e' : h.get? b = some o := PySem.W.of_hideAll (trk h H) e
  refine ⟨e', ?_⟩
  cases q : H b with
  | none => rfl
  | some x =>
    have hm : b ∈ trk h H := List.mem_filter.mpr ⟨List.mem_range.mpr (Heap.lt_size e'), by simp [q]⟩
    have z : (hidT h H).get? b = none := PySem.W.hideAll_none (trk h H) hm
    rw [z] at e; cases e

def allNews (g h : Heap) (L : Addr) : List (Addr × Obj) := (List.range h.objs.size).filterMap fun a => if a = L ∨ (g.get? a).isSome = true then none else (h.get? a).map fun o => (a, o)
def rest (g h : Heap) (L d : Addr) : List (Addr × Obj) := (allNews g h L).filter fun p => decide (p.1 ≠ d)
end L2

namespace L2
open PySem PySem.Spec PyProof.Rows

structure Mod (K : PySem.W.Frag) (mg : Str → Option Value) (base : Heap) : Prop where
  kin : K.In base
  glob : base.Ns mainGlobals mg
  blt : ∃ mb, base.Ns builtinsNs mb ∧ ∀ x : Str, x ≠ "__name__" → mb x = bootBuiltins x
  nolimit : base.NoLimit

/-- the context: a def's body (or a comprehension's block) running. base: fixed through the whole law; s₀, H₀: the entry; outer: the frames whose slots others may change (a def's callers); stack: all frames that run;
   ex: iterators that were made ahead of the entry and are walked here (a comprehension's); fn: the names whose cells were made at the entry (a def: all; a comprehension's block: its own); calm: not within an except suite; pn: pins that every state bears; xe: what is wanted of an exception that leaves the code -/
structure Cx where
  prog : Program
  w : World
  K : PySem.W.Frag
  mg : Str → Option Value
  base : Heap
  A : Around
  N : List Str
  s₀ : Shared
  H₀ : Hp
  env : Env
  outer : List Env
  stack : List Env
  ex : List Addr
  fn : Str → Bool
  calm : Bool
  pn : List (Addr × Obj)
  xe : Value → Shared → Prop
def frs (l : List Env) : List Addr := l.filterMap (·.frame)
abbrev Cx.fs (X : Cx) : List Addr := frs X.outer

def Vis (sc : Scope) (x : Str) : Prop := sc.names.lookup x = some .local ∨ sc.names.lookup x = some .cell ∨ sc.names.lookup x = some .free
def Loc (sc : Scope) (x : Str) : Prop := sc.names.lookup x = some .local ∨ sc.names.lookup x = some .cell
def Look (env : Env) (h : Heap) (m : Str → Option Value) (x : Str) (u : Value) : Prop :=
  (env.kindOf x = some .local ∧ m x = some u) ∨ ((env.kindOf x = some .cell ∨ env.kindOf x = some .free) ∧ ∃ c, env.cells.lookup x = some c ∧ h.IsCell c (some u))

structure Cx.Ok (X : Cx) : Prop where
  mod : Mod X.K X.mg X.base
  kind : X.env.scope.kind = .function
  glob : X.env.globals = mainGlobals
  blt : X.env.builtins = builtinsNs
  above : X.s₀.heap.objs.size ≤ X.env.locals
  inj : ∀ x y c, X.env.cells.lookup x = some c → X.env.cells.lookup y = some c → x = y
  has : ∀ x, (X.env.kindOf x = some .cell ∨ X.env.kindOf x = some .free) → ∃ c, X.env.cells.lookup x = some c
  cab : ∀ x c, X.fn x = true → X.env.cells.lookup x = some c → X.s₀.heap.objs.size ≤ c
  hd : X.calm = true → X.A.handled = none
  frames : X.A.frames = some X.stack
  stk : X.stack = X.outer ∨ (X.stack = X.env :: X.outer ∧ X.env.frame = some X.env.locals)
  exf : ∀ b ∈ X.ex, b ≠ X.env.locals ∧ ∀ x c, X.env.cells.lookup x = some c → c ≠ b
  bs : ∀ b o, X.base.get? b = some o → X.s₀.heap.get? b = some o ∧ X.H₀ b = none
  bsz : X.base.objs.size ≤ X.s₀.heap.objs.size
  noex : ∀ b o, X.base.get? b = some o → b ∉ X.ex
  exfs : ∀ b ∈ X.ex, b ∉ X.fs
  funs : X.s₀.heap.FunFrames X.base X.outer
  frf : ∀ b ∈ X.fs, X.H₀ b = none

structure Inv (X : Cx) (pins : List (Addr × Obj)) (σ : List (Option V)) (H : Hp) (s : Shared) : Prop where
  ok : X.Ok
  os : s.os = X.s₀.os
  bare : AllBare s.gens
  base : Un X.fs X.ex X.H₀ H X.s₀.heap s.heap
  loc : ∃ m, s.heap.Ns X.env.locals m ∧ ∀ (i : Nat) (x : Str) (v : V), X.N[i]? = some x → σ[i]? = some (some v) → Vis X.env.scope x → ∃ u, RelV v u ∧ Look X.env s.heap m x u
  cell : ∀ x c, X.env.cells.lookup x = some c → ∃ v, s.heap.IsCell c v
  free : H X.env.locals = none
  freeC : ∀ x c, X.env.cells.lookup x = some c → H c = none
  pin : ∀ p ∈ X.pn ++ pins, s.heap.get? p.1 = some p.2 ∧ H p.1 = none ∧ p.1 ≠ X.env.locals ∧ p.1 ∉ X.fs ∧ ∀ v, p.2.data ≠ .cell v
  hok : HOk X.prog X.w H s.heap
  len : σ.length = X.N.length

section
variable {X : Cx} {pins : List (Addr × Obj)} {σ : List (Option V)} {H H' : Hp} {s : Shared} {h' : Heap}

theorem Cx.Ok.nofr (ok : X.Ok) {b : Addr} {o : Obj} (e : X.base.get? b = some o) : b ∉ X.fs := fun hb => by
  have := (ok.funs.mem hb).1
  rw [e] at this; cases this
theorem Inv.bs (I : Inv X pins σ H s) : ∀ b o, X.base.get? b = some o → s.heap.get? b = some o ∧ H b = none := fun b o e =>
  ⟨I.base.keep b o (I.ok.bs b o e).1 (I.ok.bs b o e).2 (I.ok.nofr e) (I.ok.noex b o e), I.base.free b o (I.ok.bs b o e).1 (I.ok.bs b o e).2 (I.ok.noex b o e)⟩
theorem Inv.bk (I : Inv X pins σ H s) : ∀ b o, X.base.get? b = some o → s.heap.get? b = some o := fun b o e => (I.bs b o e).1
theorem Inv.mod (I : Inv X pins σ H s) : Mod X.K X.mg X.base := I.ok.mod
theorem Inv.kIn (I : Inv X pins σ H s) : X.K.In s.heap := I.ok.mod.kin.keeps I.bk
theorem Inv.nolimit (I : Inv X pins σ H s) : s.heap.NoLimit := I.ok.mod.nolimit.keeps I.bk
theorem Inv.fr (I : Inv X pins σ H s) : ∃ m, Fr X.base X.env.locals s.heap m :=
  let ⟨m, hn, _⟩ := I.loc
  ⟨m, hn, I.bk, Nat.le_trans I.ok.bsz I.ok.above⟩
theorem Inv.lt (I : Inv X pins σ H s) : X.env.locals < s.heap.objs.size := let ⟨_, hn, _⟩ := I.loc; hn.lt
theorem Inv.sz (I : Inv X pins σ H s) : X.s₀.heap.objs.size ≤ s.heap.objs.size := Nat.le_trans I.ok.above (Nat.le_of_lt I.lt)
theorem Inv.nofs (I : Inv X pins σ H s) {a : Addr} (h : s.heap.objs.size ≤ a) : a ∉ X.fs := fun hb => by
  obtain ⟨_, o, ho, _⟩ := I.ok.funs.mem hb
  exact absurd (Nat.lt_of_lt_of_le (Heap.lt_size ho) (Nat.le_trans I.sz h)) (Nat.lt_irrefl _)
theorem Inv.cne (I : Inv X pins σ H s) : ∀ x c, X.env.cells.lookup x = some c → c ≠ X.env.locals := fun x c e z => by
  obtain ⟨v, o, ho, hd⟩ := I.cell x c e
  obtain ⟨m, ⟨o', es, ep, ho', hd', _⟩, _⟩ := I.loc
  rw [z, ho'] at ho; cases ho; rw [hd'] at hd; cases hd
theorem Inv.funs (I : Inv X pins σ H s) : s.heap.FunFrames X.base X.outer := by
  have all : ∀ (l : List Env), (∀ b ∈ frs l, b ∈ X.fs) → X.s₀.heap.FunFrames X.base l → s.heap.FunFrames X.base l := by
    intro l
    induction l with
    | nil => intro _ _; trivial
    | cons env r ih =>
      intro hs hl
      obtain ⟨hk, ⟨L, o, hf, hn, ho, hd⟩, hr⟩ := hl
      have hL : L ∈ X.fs := hs L (by unfold frs; rw [List.filterMap_cons, hf]; exact List.mem_cons_self)
      obtain ⟨sl, e⟩ := I.base.slot L o ho (I.ok.frf L hL) hL fun z => I.ok.exfs L z hL
      exact ⟨hk, ⟨L, _, hf, hn, e, hd⟩, ih (fun b hb => hs b (by unfold frs; rw [List.filterMap_cons, hf]; exact List.mem_cons_of_mem _ hb)) hr⟩
  exact all X.outer (fun _ hb => hb) I.ok.funs

theorem Inv.stack (I : Inv X pins σ H s) : s.heap.FunFrames X.base X.stack := by
  rcases I.ok.stk with e | ⟨e, hf⟩
  · rw [e]; exact I.funs
  · rw [e]
    obtain ⟨m, hn, _⟩ := I.loc
    refine .cons (by rw [I.ok.kind]; decide) hf hn ?_ I.funs
    exact Heap.get?_none_of_le (Nat.le_trans I.ok.bsz I.ok.above)
theorem Inv.stkSub (I : Inv X pins σ H s) : ∀ b ∈ frs X.stack, b ∈ X.env.locals :: X.fs := fun b hb => by
  rcases I.ok.stk with e | ⟨e, hf⟩
  · rw [e] at hb; exact List.mem_cons_of_mem _ hb
  · rw [e] at hb
    unfold frs at hb
    rw [List.filterMap_cons, hf] at hb
    exact hb
theorem Inv.stkFree (I : Inv X pins σ H s) : ∀ b ∈ frs X.stack, H b = none := fun b hb => by
  rcases List.mem_cons.mp (I.stkSub b hb) with e | hb
  · rw [e]; exact I.free
  · obtain ⟨_, o, ho, _⟩ := I.ok.funs.mem hb
    exact I.base.free b o ho (I.ok.frf b hb) fun z => I.ok.exfs b z hb

theorem Inv.step {g' : Array GenState} {t' : Nat} {d' : Drawn} {ch : List Addr} (I : Inv X pins σ H s)
    (hch : ∀ b ∈ ch, (b ∈ X.ex ∨ X.s₀.heap.objs.size ≤ b) ∧ b ≠ X.env.locals ∧ (∀ x c, X.env.cells.lookup x = some c → c ≠ b) ∧ ∀ p ∈ X.pn ++ pins, p.1 ≠ b)
    (keep : ∀ b o, b ≠ X.env.locals → b ∉ X.fs → b ∉ ch → s.heap.get? b = some o → H b = none → h'.get? b = some o)
    (slot : ∀ b o, b ≠ X.env.locals → b ∈ X.fs → b ∉ ch → s.heap.get? b = some o → H b = none → ∃ sl, h'.get? b = some { o with slots := sl }) (free : ∀ b o, b ∉ ch → s.heap.get? b = some o → H b = none → H' b = none)
    (there : ∀ b o, b ∉ ch → s.heap.get? b = some o → ∃ o', h'.get? b = some o')
    (tups : ∀ b xs, H b = some (.tup xs) → H' b = some (.tup xs)) (frzs : ∀ b o u, H b = some (.frz o u) → H' b = some (.frz o u)) (tbls : ∀ b ps, H b = some (.tbl ps) → ∃ more, H' b = some (.tbl (ps ++ more)))
    (ns : ∀ m, s.heap.Ns X.env.locals m → h'.Ns X.env.locals m) (hok : HOk X.prog X.w H' h') (hg : AllBare g') :
    Inv X pins σ H' { s with heap := h', gens := g', drawn := d', toks := t' } := by
  have neL : ∀ b o, X.s₀.heap.get? b = some o → b ≠ X.env.locals := fun b o e => Nat.ne_of_lt (Nat.lt_of_lt_of_le (Heap.lt_size e) I.ok.above)
  have neC : ∀ b o, X.s₀.heap.get? b = some o → b ∉ X.ex → b ∉ ch := fun b o e hx hb => by
    rcases (hch b hb).1 with z | z
    · exact hx z
    · exact absurd (Nat.lt_of_lt_of_le (Heap.lt_size e) z) (Nat.lt_irrefl _)
  have cellK : ∀ x c, X.env.cells.lookup x = some c → ∀ v, s.heap.IsCell c v → h'.IsCell c v := fun x c e v ⟨o, ho, hd⟩ => by
    have nch : c ∉ ch := fun z => (hch c z).2.2.1 x c e rfl
    by_cases hc : c ∈ X.fs
    · obtain ⟨sl, q⟩ := slot c o (I.cne x c e) hc nch ho (I.freeC x c e)
      exact ⟨_, q, hd⟩
    · exact ⟨o, keep c o (I.cne x c e) hc nch ho (I.freeC x c e), hd⟩
  refine ⟨I.ok, I.os, hg, ⟨fun b o e n hb hx => ?_, fun b o e n hb hx => ?_, fun b o e n hx => ?_, fun b o e hx => ?_, fun b xs e => tups b xs (I.base.tups b xs e), fun b o xs e => frzs b o xs (I.base.frzs b o xs e), fun b ps e => ?_⟩, ?_, fun x c e => ?_, ?_, fun x c e => ?_, fun p hp => ?_, hok, I.len⟩
  · exact keep b o (neL b o e) hb (neC b o e hx) (I.base.keep b o e n hb hx) (I.base.free b o e n hx)
  · obtain ⟨sl, e1⟩ := I.base.slot b o e n hb hx
    obtain ⟨sl', e2⟩ := slot b _ (neL b o e) hb (neC b o e hx) e1 (I.base.free b o e n hx)
    exact ⟨sl', e2⟩
  · obtain ⟨o', e1⟩ := I.base.there b o e hx
    exact free b o' (neC b o e hx) e1 (I.base.free b o e n hx)
  · obtain ⟨o', e1⟩ := I.base.there b o e hx
    exact there b o' (neC b o e hx) e1
  · obtain ⟨m1, e1⟩ := I.base.tbls b ps e
    obtain ⟨m2, e2⟩ := tbls b _ e1
    exact ⟨m1 ++ m2, by rw [e2, Array.append_assoc]⟩
  · obtain ⟨m, hn, hl⟩ := I.loc
    refine ⟨m, ns m hn, fun i x v e1 e2 e3 => ?_⟩
    obtain ⟨u, r, l⟩ := hl i x v e1 e2 e3
    refine ⟨u, r, ?_⟩
    rcases l with l | ⟨k, c, e, z⟩
    · exact .inl l
    · exact .inr ⟨k, c, e, cellK x c e _ z⟩
  · obtain ⟨v, z⟩ := I.cell x c e
    exact ⟨v, cellK x c e v z⟩
  · obtain ⟨m, ⟨o, _, _, ho, _⟩, _⟩ := I.loc
    exact free _ o (fun z => (hch _ z).2.1 rfl) ho I.free
  · obtain ⟨v, o, ho, hd⟩ := I.cell x c e
    exact free c o (fun z => (hch c z).2.2.1 x c e rfl) ho (I.freeC x c e)
  · obtain ⟨e, n, ne, nf, d⟩ := I.pin p hp
    have nch : p.1 ∉ ch := fun z => (hch p.1 z).2.2.2 p hp rfl
    exact ⟨keep p.1 p.2 ne nf nch e n, free p.1 p.2 nch e n, ne, nf, d⟩
theorem Inv.un {t' : Nat} (I : Inv X pins σ H s) (u : Un X.fs [] H H' s.heap h') (hok : HOk X.prog X.w H' h') : Inv X pins σ H' { s with heap := h', toks := t' } := by
  obtain ⟨m, ⟨o, es, ep, ho, r⟩, _⟩ := id I.loc
  obtain ⟨sl, hL⟩ := u.any ho I.free (by simp)
  exact I.step (g' := s.gens) (d' := s.drawn) (ch := []) (fun _ z => nomatch z) (fun b o _ hb _ e n => u.keep b o e n hb (by simp)) (fun b o _ hb _ e n => u.slot b o e n hb (by simp)) (fun b o _ e n => u.free b o e n (by simp)) (fun b o _ e => u.there b o e (by simp)) u.tups u.frzs u.tbls (fun m' hm => by
    obtain ⟨o', es', ep', ho', r'⟩ := hm
    rw [ho] at ho'; cases ho'
    exact ⟨_, es', ep', hL, r'⟩) hok I.bare
theorem Inv.call {g' : Array GenState} {t' : Nat} {d' : Drawn} {ch : List Addr} (I : Inv X pins σ H s) (u : Un (frs X.stack) ch H H' s.heap h') (hok : HOk X.prog X.w H' h') (hg : AllBare g')
    (hch : ∀ b ∈ ch, (b ∈ X.ex ∨ X.s₀.heap.objs.size ≤ b) ∧ b ≠ X.env.locals ∧ (∀ x c, X.env.cells.lookup x = some c → c ≠ b) ∧ ∀ p ∈ X.pn ++ pins, p.1 ≠ b) :
    Inv X pins σ H' { s with heap := h', gens := g', drawn := d', toks := t' } := by
  obtain ⟨m, ⟨o, es, ep, ho, r⟩, _⟩ := id I.loc
  obtain ⟨sl, hL⟩ := u.any ho I.free fun z => (hch _ z).2.1 rfl
  exact I.step (ch := ch) hch (fun b o hL hb hc e n => u.keep b o e n (fun z => (List.mem_cons.mp (I.stkSub b z)).elim hL hb) hc) (fun b o _ _ hc e n => u.any e n hc) (fun b o hc e n => u.free b o e n hc) (fun b o hc e => u.there b o e hc) u.tups u.frzs u.tbls (fun m' hm => by
    obtain ⟨o', es', ep', ho', r'⟩ := hm
    rw [ho] at ho'; cases ho'
    exact ⟨_, es', ep', hL, r'⟩) hok hg
theorem Inv.turned {t' : Nat} {it : Addr} (I : Inv X pins σ H s) (k : ∀ b o, b ≠ it → s.heap.get? b = some o → h'.get? b = some o) (hn : H it = none) (hL : it ≠ X.env.locals)
    (h1 : it ∈ X.ex ∨ X.s₀.heap.objs.size ≤ it) (h2 : ∀ x c, X.env.cells.lookup x = some c → c ≠ it) (h3 : ∀ p ∈ X.pn ++ pins, p.1 ≠ it) : Inv X pins σ H { s with heap := h', toks := t' } := by
  have nit : ∀ b u, H b = some u → b ≠ it := fun b u e z => by rw [z, hn] at e; cases e
  refine I.step (g' := s.gens) (d' := s.drawn) (ch := [it]) (fun b hb => ?_) (fun b o _ _ hc e _ => k b o (fun z => hc (by simp [z])) e) (fun b o _ _ hc e _ => ⟨o.slots, k b o (fun z => hc (by simp [z])) e⟩) (fun _ _ _ _ n => n)
    (fun b o hc e => ⟨o, k b o (fun z => hc (by simp [z])) e⟩) (fun _ _ e => e) (fun _ _ _ e => e) (fun b ps e => ⟨#[], by rw [e]; simp⟩) (fun m hm => ?_) (fun b u e => ?_) I.bare
  · have e : b = it := by simpa using hb
    subst e
    exact ⟨h1, hL, h2, h3⟩
  · obtain ⟨o, es, ep, ho, r⟩ := hm
    exact ⟨o, es, ep, k _ o (Ne.symm hL) ho, r⟩
  · refine (I.hok b u e).stay (fun c v hc q => k c v ?_ q) (fun _ q => q) fun _ _ q => q
    rcases hc with z | z
    · rw [z]; exact nit b u e
    · exact nit c _ z
theorem Inv.tok (I : Inv X pins σ H s) (t : Nat) : Inv X pins σ H { s with toks := t } := I.un (h' := s.heap) (t' := t) Un.refl I.hok
theorem Inv.kept {t' : Nat} (I : Inv X pins σ H s) (k : ∀ b u, s.heap.get? b = some u → h'.get? b = some u) : Inv X pins σ H { s with heap := h', toks := t' } := I.un (Un.kept k) (I.hok.kept k)
theorem Inv.laid {a : Addr} {o : HO} {t' : Nat} (I : Inv X pins σ H s) (k : ∀ b u, s.heap.get? b = some u → h'.get? b = some u) (hp : s.heap.objs.size ≤ a) (new : ObjOk X.prog X.w (upd H a o) h' a o) :
    Inv X pins σ (upd H a o) { s with heap := h', toks := t' } := I.un (Un.laid k hp (I.hok.fresh hp)) (I.hok.laid k hp new)
theorem Inv.write {x e : Addr} {o : HO} {t' : Nat} (I : Inv X pins σ H s) (mu : Mut (H x)) (he : e = x ∨ H e = some (.own x)) (k : ∀ b u, b ≠ e → s.heap.get? b = some u → h'.get? b = some u) (heo : ∃ u, h'.get? e = some u)
    (new : ObjOk X.prog X.w (upd H x o) h' x o) : Inv X pins σ (upd H x o) { s with heap := h', toks := t' } := I.un (Un.write mu he k heo) (I.hok.write mu he k heo new)
theorem Inv.pins_of {pins' : List (Addr × Obj)} (I : Inv X pins σ H s) (h : ∀ p ∈ pins', s.heap.get? p.1 = some p.2 ∧ H p.1 = none ∧ p.1 ≠ X.env.locals ∧ p.1 ∉ X.fs ∧ ∀ v, p.2.data ≠ .cell v) : Inv X pins' σ H s :=
  ⟨I.ok, I.os, I.bare, I.base, I.loc, I.cell, I.free, I.freeC, fun p hp => (List.mem_append.mp hp).elim (fun z => I.pin p (List.mem_append_left _ z)) (h p), I.hok, I.len⟩

theorem nodup_ix {N : List Str} (hN : N.Nodup) {i j : Nat} {x : Str} (a : N[i]? = some x) (b : N[j]? = some x) : i = j := by
  obtain ⟨h1, e1⟩ := List.getElem?_eq_some_iff.mp a
  obtain ⟨h2, e2⟩ := List.getElem?_eq_some_iff.mp b
  exact (List.getElem_inj hN).mp (e1.trans e2.symm)

theorem store_ok2 {M : Model} {A : Around} {E : Value → Shared → Prop} {i : Nat} {x : Str} {v : V} {u : Value} {Q : Unit → Shared → Prop} (I : Inv X pins σ H s) (hN : X.N.Nodup) (hi : X.N[i]? = some x) (hx : Loc X.env.scope x) (r : RelV v u)
    (h : ∀ s', Inv X pins (σ.set i (some v)) H s' → (∃ a, Heap.SameBut a s.heap s'.heap ∧ (a = X.env.locals ∨ X.env.cells.lookup x = some a)) → Q () s') (hf : X.fn x = true ∨ X.env.scope.names.lookup x = some .local := by first | exact .inl rfl | exact .inr rfl | assumption) : wpAny M A (storeName X.env x u) Q E s := by
  obtain ⟨m, hn, hl⟩ := id I.loc
  have hcls : (X.env.scope.kind == .class || (X.env.scope.kind == .module && X.env.locals != X.env.globals)) = false := by rw [I.ok.kind]; rfl
  have hiσ : i < σ.length := by rw [I.len]; exact (List.getElem?_eq_some_iff.mp hi).1
  have cne := I.cne
  have tracked : ∀ {a : Addr} {h' : Heap}, (∃ o, s.heap.get? a = some o ∧ H a = none) → Heap.SameBut a s.heap h' → HOk X.prog X.w H h' := fun {a h'} ha hs b ob e => by
    obtain ⟨_, _, hfree⟩ := ha
    refine (I.hok b ob e).stay (fun c w' hc q => (hs.2 c ?_).trans q) (fun _ q => q) fun _ _ q => q
    rintro rfl
    rcases hc with rfl | hc
    · rw [hfree] at e; cases e
    · rw [hfree] at hc; cases hc
  rcases hx with hk | hk
  · refine wpAny_storeName_local hk hn (fun h' hn' hs => ?_) hcls
    obtain ⟨oL, _, _, hoL, _⟩ := id hn
    refine h _ ⟨I.ok, I.os, I.bare, ⟨fun b o e n hb hx => ?_, fun b o e n hb hx => ?_, I.base.free, fun b o e hx => ?_, I.base.tups, I.base.frzs, I.base.tbls⟩, ⟨_, hn', fun j y v' e1 e2 e3 => ?_⟩, fun y c e => ?_, I.free, I.freeC, fun p hp => ?_, tracked ⟨oL, hoL, I.free⟩ hs, by simpa using I.len⟩ ⟨_, hs, .inl rfl⟩
    · exact (hs.2 b (Nat.ne_of_lt (Nat.lt_of_lt_of_le (Heap.lt_size e) I.ok.above))).trans (I.base.keep b o e n hb hx)
    · obtain ⟨sl, e1⟩ := I.base.slot b o e n hb hx
      exact ⟨sl, (hs.2 b (Nat.ne_of_lt (Nat.lt_of_lt_of_le (Heap.lt_size e) I.ok.above))).trans e1⟩
    · obtain ⟨o', e1⟩ := I.base.there b o e hx
      exact ⟨o', (hs.2 b (Nat.ne_of_lt (Nat.lt_of_lt_of_le (Heap.lt_size e) I.ok.above))).trans e1⟩
    · by_cases hj : j = i
      · subst hj
        rw [hi] at e1; cases e1
        rw [List.getElem?_set_self hiσ] at e2
        cases e2
        exact ⟨u, r, .inl ⟨hk, by simp⟩⟩
      · rw [List.getElem?_set_ne (Ne.symm hj)] at e2
        obtain ⟨u', r', q⟩ := hl j y v' e1 e2 e3
        refine ⟨u', r', ?_⟩
        rcases q with ⟨k, e⟩ | ⟨k, c, e, z⟩
        · refine .inl ⟨k, ?_⟩
          have : y ≠ x := fun e => hj (nodup_ix hN e1 (e ▸ hi))
          simp [this, e]
        · exact .inr ⟨k, c, e, z.sameBut hs (cne y c e)⟩
    · obtain ⟨w', z⟩ := I.cell y c e
      exact ⟨w', z.sameBut hs (cne y c e)⟩
    · obtain ⟨e, n, ne, nf, d⟩ := I.pin p hp
      exact ⟨(hs.2 p.1 ne).trans e, n, ne, nf, d⟩
  · have hfn : X.fn x = true := by
      rcases hf with z | z
      · exact z
      · rw [z] at hk; cases hk
    obtain ⟨c, hc⟩ := I.ok.has x (.inl hk)
    obtain ⟨w', z⟩ := I.cell x c hc
    refine wpAny_storeName_cell I.ok.kind hk hc z (fun h' hc' hs => ?_)
    obtain ⟨oc, hoc, hocd⟩ := id z
    refine h { s with heap := h' } ⟨I.ok, I.os, I.bare, ⟨fun b o e n hb hx => ?_, fun b o e n hb hx => ?_, I.base.free, fun b o e hx => ?_, I.base.tups, I.base.frzs, I.base.tbls⟩, ⟨m, hn.sameBut hs (Ne.symm (cne x c hc)), fun j y v' e1 e2 e3 => ?_⟩, fun y c' e => ?_, I.free, I.freeC, fun p hp => ?_, tracked ⟨oc, hoc, I.freeC x c hc⟩ hs, by simpa using I.len⟩ ⟨c, hs, .inr hc⟩
    · exact (hs.2 b (Nat.ne_of_lt (Nat.lt_of_lt_of_le (Heap.lt_size e) (I.ok.cab x c hfn hc)))).trans (I.base.keep b o e n hb hx)
    · obtain ⟨sl, e1⟩ := I.base.slot b o e n hb hx
      exact ⟨sl, (hs.2 b (Nat.ne_of_lt (Nat.lt_of_lt_of_le (Heap.lt_size e) (I.ok.cab x c hfn hc)))).trans e1⟩
    · obtain ⟨o', e1⟩ := I.base.there b o e hx
      exact ⟨o', (hs.2 b (Nat.ne_of_lt (Nat.lt_of_lt_of_le (Heap.lt_size e) (I.ok.cab x c hfn hc)))).trans e1⟩
    · by_cases hj : j = i
      · subst hj
        rw [hi] at e1; cases e1
        rw [List.getElem?_set_self hiσ] at e2
        cases e2
        exact ⟨u, r, .inr ⟨.inl hk, c, hc, hc'⟩⟩
      · rw [List.getElem?_set_ne (Ne.symm hj)] at e2
        obtain ⟨u', r', q⟩ := hl j y v' e1 e2 e3
        refine ⟨u', r', ?_⟩
        rcases q with q | ⟨k, c', e, z'⟩
        · exact .inl q
        · refine .inr ⟨k, c', e, z'.sameBut hs ?_⟩
          rintro rfl
          exact hj (nodup_ix hN e1 (I.ok.inj _ _ _ e hc ▸ hi))
    · by_cases hcc : c' = c
      · subst hcc; exact ⟨_, hc'⟩
      · obtain ⟨w2, z2⟩ := I.cell y c' e
        exact ⟨w2, z2.sameBut hs hcc⟩
    · obtain ⟨e, n, ne, nf, d⟩ := I.pin p hp
      refine ⟨(hs.2 p.1 ?_).trans e, n, ne, nf, d⟩
      intro q
      rw [q, hoc] at e
      have q' : oc = p.2 := Option.some.inj e
      exact d w' (by rw [← q']; exact hocd)
theorem store_ok {M : Model} {A : Around} {E : Value → Shared → Prop} {i : Nat} {x : Str} {v : V} {u : Value} {Q : Unit → Shared → Prop} (I : Inv X pins σ H s) (hN : X.N.Nodup) (hi : X.N[i]? = some x) (hx : Loc X.env.scope x) (r : RelV v u)
    (h : ∀ s', Inv X pins (σ.set i (some v)) H s' → Q () s') (hf : X.fn x = true ∨ X.env.scope.names.lookup x = some .local := by first | exact .inl rfl | exact .inr rfl | assumption) : wpAny M A (storeName X.env x u) Q E s :=
  store_ok2 I hN hi hx r (fun s' I' _ => h s' I') hf
theorem Inv.call' {s' : Shared} {ch : List Addr} (I : Inv X pins σ H s) (ho : s'.os = s.os) (u : Un (frs X.stack) ch H H' s.heap s'.heap) (hok : HOk X.prog X.w H' s'.heap) (hg : AllBare s'.gens)
    (hch : ∀ b ∈ ch, (b ∈ X.ex ∨ X.s₀.heap.objs.size ≤ b) ∧ b ≠ X.env.locals ∧ (∀ x c, X.env.cells.lookup x = some c → c ≠ b) ∧ ∀ p ∈ X.pn ++ pins, p.1 ≠ b) : Inv X pins σ H' s' := by
  obtain ⟨h', g', d', t', o'⟩ := s'
  have e : o' = s.os := ho
  subst e
  exact I.call (g' := g') (t' := t') (d' := d') u hok hg hch
end

abbrev XK := Value → Option Addr → Hp → Prop
abbrev St := List (Option V)
abbrev VK := V → Hp → Prop
abbrev TE := St → Hp → VK → Prop
abbrev TT := St → Hp → (Bool → Hp → Prop) → Prop
abbrev TA := St → Hp → (List V → Hp → Prop) → Prop
structure Ends where
  nx : St → Hp → Prop
  rt : VK
  bk : St → Hp → Prop := fun _ _ => False
  ct : St → Hp → Prop := fun _ _ => False
abbrev TS := Ends → St → Hp → Prop

def EP (X : Cx) (pins : List (Addr × Obj)) (σ : St) (Q : VK) (u : Value) (s' : Shared) : Prop := ∃ v H', Inv X pins σ H' s' ∧ RelV v u ∧ Q v H'
def TP (X : Cx) (pins : List (Addr × Obj)) (σ : St) (Q : Bool → Hp → Prop) (b : Bool) (s' : Shared) : Prop := ∃ H', Inv X pins σ H' s' ∧ Q b H'
def AP (X : Cx) (pins : List (Addr × Obj)) (σ : St) (Q : List V → Hp → Prop) (us : List Value) (s' : Shared) : Prop := ∃ vs H', Inv X pins σ H' s' ∧ Vals vs us ∧ Q vs H'
def SP (X : Cx) (pins : List (Addr × Obj)) (D : Ends) (f : Flow) (s' : Shared) : Prop :=
  match f with
  | .next => ∃ σ' H', Inv X pins σ' H' s' ∧ D.nx σ' H'
  | .brk => ∃ σ' H', Inv X pins σ' H' s' ∧ D.bk σ' H'
  | .cont => ∃ σ' H', Inv X pins σ' H' s' ∧ D.ct σ' H'
  | .ret u => ∃ v σ' H', Inv X pins σ' H' s' ∧ RelV v u ∧ D.rt v H'

def PE (X : Cx) (e : Expr) (t : TE) : Prop :=
  ∀ (pins : List (Addr × Obj)) (s : Shared) (σ : St) (H : Hp) (Q : VK), Inv X pins σ H s → t σ H Q → wpAny (model X.prog X.w) X.A (eval e X.env) (EP X pins σ Q) X.xe s
def PT (X : Cx) (e : Expr) (t : TT) : Prop :=
  ∀ (pins : List (Addr × Obj)) (s : Shared) (σ : St) (H : Hp) (Q : Bool → Hp → Prop), Inv X pins σ H s → t σ H Q → wpAny (model X.prog X.w) X.A (isTrue e X.env (eval e X.env)) (TP X pins σ Q) X.xe s
def PW (X : Cx) (e : Expr) (t : TT) : Prop :=
  ∀ (whole : Sem Value) (pins : List (Addr × Obj)) (s : Shared) (σ : St) (H : Hp) (Q : Bool → Hp → Prop), Inv X pins σ H s → t σ H Q → wpAny (model X.prog X.w) X.A (isTrue e X.env whole) (TP X pins σ Q) X.xe s
theorem PW.pt {X : Cx} {e : Expr} {t : TT} (h : PW X e t) : PT X e t := h _
def PA (X : Cx) (es : List Expr) (t : TA) : Prop :=
  ∀ (pos : Pos) (pins : List (Addr × Obj)) (s : Shared) (σ : St) (H : Hp) (Q : List V → Hp → Prop), Inv X pins σ H s → t σ H Q → wpAny (model X.prog X.w) X.A (spliced (backTo pos (starEach es X.env))) (AP X pins σ Q) X.xe s
def PS (X : Cx) (st : Stmt) (t : TS) : Prop :=
  ∀ (pins : List (Addr × Obj)) (s : Shared) (σ : St) (H : Hp) (D : Ends), Inv X pins σ H s → t D σ H → wpAny (model X.prog X.w) X.A (exec st X.env) (SP X pins D) X.xe s
def PSs (X : Cx) (st : List Stmt) (t : TS) : Prop :=
  ∀ (pins : List (Addr × Obj)) (s : Shared) (σ : St) (H : Hp) (D : Ends), Inv X pins σ H s → t D σ H → wpAny (model X.prog X.w) X.A (execs st X.env) (SP X pins D) X.xe s
theorem thn {α : Type} {t : Sem α} {Q Q' : α → Shared → Prop} {M : Model} {A : Around} {E : Value → Shared → Prop} {s : Shared} (h : wpAny M A t Q E s) (hQ : ∀ a s, Q a s → Q' a s) : wpAny M A t Q' E s := wpAny_mono h hQ fun _ _ x => x
end L2

namespace L2
open PySem PySem.Spec PyProof.Rows
section
variable {X : Cx}

def tVar (i : Nat) : TE := fun σ H Q => ∃ v, σ[i]? = some (some v) ∧ Q v H
def tC (v : V) : TE := fun _ H Q => Q v H
theorem pe_var {i : Nat} {x : Str} {pos : Pos} (hN : X.N[i]? = some x) (hv : Vis X.env.scope x) (hd : (x == ("__debug__" : Str)) = false := by decide) (hcd : (x == ("__classdict__" : Str)) = false := by decide) : PE X (.Name x pos) (tVar i) := by
  intro pins s σ H Q I h
  obtain ⟨v, e, h⟩ := h
  obtain ⟨m, hn, hl⟩ := I.loc
  obtain ⟨u, r, l⟩ := hl i x v hN e hv
  have fin : EP X pins σ Q u s := ⟨v, H, I, r, h⟩
  rcases l with ⟨hk, hm⟩ | ⟨hk, c, hc, hcell⟩
  · exact wpAny_Name (wpAny_loadName_local I.ok.kind hk hn hm fin) hd
  · rcases hk with hk | hk
    · exact wpAny_Name (wpAny_loadName_cell I.ok.kind hk hc hcell fin) hd
    · exact wpAny_Name (wpAny_loadName_free I.ok.kind hk hc hcell fin hcd) hd
theorem pe_int {i j pos} : PE X (.Constant (.int i) j pos) (tC (.int i)) := fun _ _ _ H _ I h => wpAny_Constant_int ⟨.int i, H, I.tok _, ⟨_, rfl⟩, h⟩
theorem pe_bl {b j pos} : PE X (.Constant (.bool b) j pos) (tC (.bl b)) := fun _ _ _ H _ I h => Constant_bool ⟨.bl b, H, I, rfl, h⟩
theorem pe_non {j pos} : PE X (.Constant .none j pos) (tC .non) := fun _ _ _ H _ I h => Constant_none ⟨.non, H, I, rfl, h⟩
theorem pe_str {x j pos} : PE X (.Constant (.str x) j pos) (tC (.str x)) := fun _ _ _ H _ I h => Calls.Constant_str ⟨.str x, H, I.tok _, ⟨_, rfl⟩, h⟩

def Gl (X : Cx) (x : Str) : Prop := X.env.kindOf x = some .globalImplicit
theorem ld_glob {E : Value → Shared → Prop} {pins : List (Addr × Obj)} {s : Shared} {σ : St} {H : Hp} {x : Str} {u : Value} {pos : Pos} {Q : Value → Shared → Prop} (I : Inv X pins σ H s) (hg : Gl X x) (hm : X.mg x = some u) (h : Q u s)
    (hd : (x == ("__debug__" : Str)) = false := by decide) : wpAny (model X.prog X.w) X.A (eval (.Name x pos) X.env) Q E s :=
  Calls.Name_function_global I.ok.kind hg (Calls.loadGlobal_global (by rw [I.ok.glob]; exact I.mod.glob.keeps I.bk) hm h) hd
theorem ld_blt {E : Value → Shared → Prop} {pins : List (Addr × Obj)} {s : Shared} {σ : St} {H : Hp} {x : Str} {u : Value} {pos : Pos} {Q : Value → Shared → Prop} (I : Inv X pins σ H s) (hg : Gl X x) (hm : X.mg x = none) (hv : bootBuiltins x = some u) (h : Q u s)
    (hn : x ≠ "__name__" := by decide) (hd : (x == ("__debug__" : Str)) = false := by decide) : wpAny (model X.prog X.w) X.A (eval (.Name x pos) X.env) Q E s := by
  obtain ⟨mb, h1, h2⟩ := I.mod.blt
  exact Calls.Name_function_global I.ok.kind hg (Calls.loadGlobal_builtin (by rw [I.ok.glob]; exact I.mod.glob.keeps I.bk) hm (by rw [I.ok.blt]; exact h1.keeps I.bk) ((h2 x hn).trans hv) h) hd
theorem pe_bltn {x : Str} {v : V} {u : Value} {pos : Pos} (hg : Gl X x) (hm : X.mg x = none) (hv : bootBuiltins x = some u) (r : RelV v u) (hn : x ≠ "__name__" := by decide) (hd : (x == ("__debug__" : Str)) = false := by decide) : PE X (.Name x pos) (tC v) :=
  fun _ _ _ H _ I h => ld_blt I hg hm hv ⟨v, H, I, r, h⟩ hn hd

variable {a b : Expr} {ta tb : TE} {pos : Pos}
def tB (t : TE) : TT := fun σ H Q => t σ H fun x H1 => ∃ c, x = .bl c ∧ Q c H1
theorem pt_val {e : Expr} {t : TE} (h : PE X e t) (he : ∀ whole, isTrue e X.env whole = (do let v ← whole; standAt e.pos; holding [v] (truthy v)) := by intro _; rfl) : PT X e (tB t) := by
  intro pins s σ H Q I hw
  refine isTrue_plain (thn (h pins s σ H _ I hw) fun v s1 ⟨x, H1, I1, r1, q1⟩ => ?_) (he _)
  obtain ⟨d, rfl, q⟩ := q1
  cases r1
  exact wpAny_truthy_bool ⟨H1, I1, q⟩

variable {tA tB' : TT} {rest : List Expr}
def tAnd (t u : TT) : TT := fun σ H Q => t σ H fun c H1 => if c = true then u σ H1 Q else Q false H1
def tOr (t u : TT) : TT := fun σ H Q => t σ H fun c H1 => if c = true then Q true H1 else u σ H1 Q
def tNot (t : TT) : TT := fun σ H Q => t σ H fun c H1 => Q (!c) H1
theorem pw_and1 (ha : PT X a tA) : PW X (.BoolOp .And [a] pos) tA := by
  intro wh pins s σ H Q I h
  refine isTrue_and (thn (ha pins s σ H Q I h) fun c s1 e => ?_)
  cases c with
  | true => exact isTrue_and_nil e
  | false => exact e
theorem pw_or1 (ha : PT X a tA) : PW X (.BoolOp .Or [a] pos) tA := by
  intro wh pins s σ H Q I h
  refine isTrue_or (thn (ha pins s σ H Q I h) fun c s1 e => ?_)
  cases c with
  | false => exact isTrue_or_nil e
  | true => exact e
theorem pw_and (ha : PT X a tA) (hb : PW X (.BoolOp .And (b :: rest) pos) tB') : PW X (.BoolOp .And (a :: b :: rest) pos) (tAnd tA tB') := by
  intro wh pins s σ H Q I h
  refine isTrue_and (thn (ha pins s σ H _ I h) fun c s1 ⟨H1, I1, q1⟩ => ?_)
  cases c with
  | true => exact hb wh pins s1 σ H1 Q I1 q1
  | false => exact ⟨H1, I1, q1⟩
theorem pw_or (ha : PT X a tA) (hb : PW X (.BoolOp .Or (b :: rest) pos) tB') : PW X (.BoolOp .Or (a :: b :: rest) pos) (tOr tA tB') := by
  intro wh pins s σ H Q I h
  refine isTrue_or (thn (ha pins s σ H _ I h) fun c s1 ⟨H1, I1, q1⟩ => ?_)
  cases c with
  | true => exact ⟨H1, I1, q1⟩
  | false => exact hb wh pins s1 σ H1 Q I1 q1
theorem pt_not (ha : PT X a tA) : PT X (.UnaryOp .Not a pos) (tNot tA) := by
  intro pins s σ H Q I h
  exact isTrue_not (ha pins s σ H (fun c H1 => Q (!c) H1) I h)
def tAndV (ta tb : TE) : TE := fun σ H Q => ta σ H fun x H1 => ∃ c, x = .bl c ∧ if c = true then tb σ H1 Q else Q (.bl false) H1
def tOrV (ta tb : TE) : TE := fun σ H Q => ta σ H fun x H1 => ∃ c, x = .bl c ∧ if c = true then Q (.bl true) H1 else tb σ H1 Q
def tNotV (ta : TE) : TE := fun σ H Q => ta σ H fun x H1 => ∃ c, x = .bl c ∧ Q (.bl (!c)) H1
theorem pe_one {op} {t : TE} (h : PE X a t) : PE X (.BoolOp op [a] pos) t := fun pins s σ H Q I hw => BoolOp_one (h pins s σ H Q I hw)
theorem pe_and (ha : PE X a ta) (hb : PE X (.BoolOp .And (b :: rest) pos) tb) : PE X (.BoolOp .And (a :: b :: rest) pos) (tAndV ta tb) := by
  intro pins s σ H Q I h
  refine BoolOp_and (thn (ha pins s σ H _ I h) fun v s1 ⟨x, H1, I1, r1, q1⟩ => ?_)
  obtain ⟨c, rfl, q1⟩ := q1
  cases r1
  refine wpAny_truthy_bool ?_
  cases c with
  | true => exact hb pins s1 σ H1 Q I1 q1
  | false => exact ⟨.bl false, H1, I1, rfl, q1⟩
def tIf (t : TT) (ta tb : TE) : TE := fun σ H Q => t σ H fun c H1 => if c = true then ta σ H1 Q else tb σ H1 Q
theorem pe_ifExp {c : Expr} (hc : PT X c tA) (ha : PE X a ta) (hb : PE X b tb) : PE X (.IfExp c a b pos) (tIf tA ta tb) := by
  intro pins s σ H Q I h
  refine wpAny_IfExp (thn (hc pins s σ H _ I h) fun d s1 ⟨H1, I1, q1⟩ => ?_)
  cases d with
  | true => exact ha pins s1 σ H1 Q I1 q1
  | false => exact hb pins s1 σ H1 Q I1 q1
end
end L2

namespace L2
open PySem PySem.Spec PyProof.Rows

def SqL (K : PySem.W.Frag) (H : Hp) (a : Addr) (xs : List V) : Prop :=
  Rd H a (.lst xs) ∨
    ∃ (o : Obj) (its : Array Value) (n : Nat), K.lookup a = some o ∧ o.cls = .type "list" ∧ o.dict = none ∧ o.data = .seq its n ∧ its.size ≤ sizeLine ∧ Vals xs its.toList
def SqT (K : PySem.W.Frag) (H : Hp) (a : Addr) (xs : List V) : Prop :=
  Rd H a (.tup xs) ∨
    ∃ (o : Obj) (its : Array Value) (n : Nat), K.lookup a = some o ∧ o.cls = .type "tuple" ∧ o.data = .seq its n ∧ its.size ≤ sizeLine ∧ Vals xs its.toList
def absV : Value → Option V
  | .none => some .non
  | .bool b => some (.bl b)
  | .int i _ => some (.int i)
  | .str x _ => some (.str x)
  | .bytes b _ => some (.byt b)
  | .float b _ => some (.flt b)
  | .ref a => some (.ref a)
  | .type n => some (.ty n)
  | _ => none
theorem RelV.abs {x : V} {u : Value} (r : RelV x u) : absV u = some x := by
  cases x with
  | non => cases r; rfl
  | bl _ => cases r; rfl
  | int _ => obtain ⟨t, rfl⟩ := r; rfl
  | str _ => obtain ⟨t, rfl⟩ := r; rfl
  | byt _ => obtain ⟨t, rfl⟩ := r; rfl
  | flt _ => obtain ⟨t, rfl⟩ := r; rfl
  | ref _ => cases r; rfl
  | ty _ => cases r; rfl
theorem RelV.inj {x y : V} {u : Value} (r : RelV x u) (q : RelV y u) : x = y := Option.some.inj (r.abs.symm.trans q.abs)
theorem Vals.inj : ∀ {xs ys : List V} {us : List Value}, Vals xs us → Vals ys us → xs = ys
  | _, _, _, .nil, .nil => rfl
  | _, _, _, .cons r t, .cons r' t' => by rw [r.inj r', Vals.inj t t']
section
variable {X : Cx} {pins : List (Addr × Obj)} {σ : St} {H : Hp} {s : Shared} {a : Addr} {xs ys : List V}
theorem SqL.of {K : PySem.W.Frag} (h : H a = some (.lst xs)) : SqL K H a xs := .inl (.inl h)
theorem SqT.of {K : PySem.W.Frag} (h : H a = some (.tup xs)) : SqT K H a xs := .inl (.inl h)
theorem Inv.list (I : Inv X pins σ H s) (h : SqL X.K H a xs) : ∃ its : List Value, Vals xs its ∧ PlainL s.heap a its.toArray ∧ xs.length ≤ sizeLine := by
  rcases h with h | ⟨o, its, n, hk, hc, hd, hs, hz, r⟩
  · obtain ⟨z, its, n, r, e⟩ := h.ok I.hok
    exact ⟨its, r, ⟨_, n, e, rfl, rfl, rfl⟩, z⟩
  · refine ⟨its.toList, r, ⟨o, n, I.kIn a o hk, hc, hd, by simpa using hs⟩, ?_⟩
    have e := r.length
    simp only [Array.length_toList] at e
    omega
theorem Inv.tuple (I : Inv X pins σ H s) (h : SqT X.K H a xs) : ∃ its : List Value, Vals xs its ∧ IsTup s.heap a its.toArray ∧ xs.length ≤ sizeLine := by
  rcases h with h | ⟨o, its, n, hk, hc, hs, hz, r⟩
  · obtain ⟨z, its, r, p⟩ := h.ok I.hok
    exact ⟨its, r, p, z⟩
  · refine ⟨its.toList, r, ⟨o, I.kIn a o hk, hc, n, by simpa using hs⟩, ?_⟩
    have e := r.length
    simp only [Array.length_toList] at e
    omega
theorem Inv.list_inj (I : Inv X pins σ H s) (h : SqL X.K H a xs) (h' : SqL X.K H a ys) : xs = ys := by
  obtain ⟨its, r, ⟨o, n, e, _, _, d⟩, _⟩ := I.list h
  obtain ⟨its', r', ⟨o', n', e', _, _, d'⟩, _⟩ := I.list h'
  rw [e] at e'; cases e'
  rw [d] at d'
  injection d' with d1 _
  have : its = its' := by simpa using congrArg Array.toList d1
  subst this
  exact r.inj r'
theorem Inv.tuple_inj (I : Inv X pins σ H s) (h : SqT X.K H a xs) (h' : SqT X.K H a ys) : xs = ys := by
  obtain ⟨its, r, ⟨o, e, _, n, d⟩, _⟩ := I.tuple h
  obtain ⟨its', r', ⟨o', e', _, n', d'⟩, _⟩ := I.tuple h'
  rw [e] at e'; cases e'
  rw [d] at d'
  injection d' with d1 _
  have : its = its' := by simpa using congrArg Array.toList d1
  subst this
  exact r.inj r'
end

abbrev Cx.wish (X : Cx) (E : Value → Shared → Prop) : Cx := { X with xe := E }
abbrev Cx.nox (X : Cx) : Cx := X.wish fun _ _ => False
theorem Cx.Ok.wish {X : Cx} (ok : X.Ok) (E : Value → Shared → Prop) : (X.wish E).Ok :=
  ⟨ok.mod, ok.kind, ok.glob, ok.blt, ok.above, ok.inj, ok.has, ok.cab, ok.hd, ok.frames, ok.stk, ok.exf, ok.bs, ok.bsz, ok.noex, ok.exfs, ok.funs, ok.frf⟩
theorem Cx.Ok.unwish {X : Cx} {E : Value → Shared → Prop} (ok : (X.wish E).Ok) : X.Ok :=
  ⟨ok.mod, ok.kind, ok.glob, ok.blt, ok.above, ok.inj, ok.has, ok.cab, ok.hd, ok.frames, ok.stk, ok.exf, ok.bs, ok.bsz, ok.noex, ok.exfs, ok.funs, ok.frf⟩
section
variable {X : Cx} {pins : List (Addr × Obj)} {σ : St} {H : Hp} {s : Shared} {E : Value → Shared → Prop}
theorem Inv.wish (I : Inv X pins σ H s) (E : Value → Shared → Prop) : Inv (X.wish E) pins σ H s := ⟨I.ok.wish E, I.os, I.bare, I.base, I.loc, I.cell, I.free, I.freeC, I.pin, I.hok, I.len⟩
theorem Inv.unwish (I : Inv (X.wish E) pins σ H s) : Inv X pins σ H s := ⟨I.ok.unwish, I.os, I.bare, I.base, I.loc, I.cell, I.free, I.freeC, I.pin, I.hok, I.len⟩
theorem SP.unwish {D : Ends} {f : Flow} {s' : Shared} (h : SP (X.wish E) pins D f s') : SP X pins D f s' := by
  cases f with
  | next => obtain ⟨σ', H', I, q⟩ := h; exact ⟨σ', H', I.unwish, q⟩
  | brk => obtain ⟨σ', H', I, q⟩ := h; exact ⟨σ', H', I.unwish, q⟩
  | cont => obtain ⟨σ', H', I, q⟩ := h; exact ⟨σ', H', I.unwish, q⟩
  | ret u => obtain ⟨v, σ', H', I, r, q⟩ := h; exact ⟨v, σ', H', I.unwish, r, q⟩
theorem PE.nox {e : Expr} {t : TE} (h : PE X.nox e t) : PE X e t := fun pins s σ H Q I hw =>
  wpAny_mono (h pins s σ H Q (I.wish _) hw) (fun _ _ ⟨v, H', I', r, q⟩ => ⟨v, H', I'.unwish, r, q⟩) fun _ _ z => False.elim z
theorem PT.nox {e : Expr} {t : TT} (h : PT X.nox e t) : PT X e t := fun pins s σ H Q I hw =>
  wpAny_mono (h pins s σ H Q (I.wish _) hw) (fun _ _ ⟨H', I', q⟩ => ⟨H', I'.unwish, q⟩) fun _ _ z => False.elim z
theorem PSs.nox {st : List Stmt} {t : TS} (h : PSs X.nox st t) : PSs X st t := fun pins s σ H D I hw =>
  wpAny_mono (h pins s σ H D (I.wish _) hw) (fun _ _ q => q.unwish) fun _ _ z => False.elim z
end

section
variable {X : Cx} {st : Stmt} {rest : List Stmt} {t u : TS} {e : Expr} {te : TE} {pos : Pos}
def tNext : TS := fun D σ H => D.nx σ H
def tSeq (t u : TS) : TS := fun D σ H => t { D with nx := u D } σ H
theorem pss_nil : PSs X [] tNext := fun _ _ σ H _ I h => wpAny_execs_nil ⟨σ, H, I, h⟩
theorem pss_cons (h1 : PS X st t) (h2 : PSs X rest u) : PSs X (st :: rest) (tSeq t u) := by
  intro pins s σ H D I h
  refine wpAny_execs_cons (thn (h1 pins s σ H { D with nx := u D } I h) fun f s1 q => ?_)
  cases f with
  | next =>
    obtain ⟨σ', H', I', q⟩ := q
    exact h2 pins s1 σ' H' D I' q
  | ret v => exact q
  | brk => exact q
  | cont => exact q
theorem pss_one (h1 : PS X st t) : PSs X [st] t := by
  intro pins s σ H D I h
  refine wpAny_execs_cons (thn (h1 pins s σ H D I h) fun f s1 q => ?_)
  cases f with
  | next => exact wpAny_execs_nil q
  | ret v => exact q
  | brk => exact q
  | cont => exact q
theorem Inv.quiet {pins : List (Addr × Obj)} {σ : St} {H : Hp} {s : Shared} (I : Inv X pins σ H s) : interactive X.env = false := by simp [interactive, I.ok.kind]
def tDrop (te : TE) : TS := fun D σ H => te σ H fun _ H1 => D.nx σ H1
theorem ps_expr (he : PE X e te) (hs : swapsWith e none pos.line X.env = pure false := by rfl) : PS X (.Expr e pos) (tDrop te) := by
  intro pins s σ H D I h
  exact wpAny_Expr_any (thn (he pins s σ H _ I h) fun v s1 ⟨x, H1, I1, r1, q1⟩ => ⟨σ, H1, I1, q1⟩) I.quiet hs
def tRet (te : TE) : TS := fun D σ H => te σ H D.rt
theorem ps_ret (he : PE X e te) : PS X (.Return (some e) pos) (tRet te) := by
  intro pins s σ H D I h
  exact wpAny_Return_some (thn (he pins s σ H _ I h) fun v s1 ⟨x, H1, I1, r1, q1⟩ => ⟨x, σ, H1, I1, r1, q1⟩)
def tRetN : TS := fun D _ H => D.rt .non H
def tIfS (c : TT) (t u : TS) : TS := fun D σ H => c σ H fun b H1 => if b = true then t D σ H1 else u D σ H1
theorem ps_if {c : Expr} {a b : List Stmt} {tc : TT} (hc : PT X c tc) (ha : PSs X a t) (hb : PSs X b u) : PS X (.If c a b pos) (tIfS tc t u) := by
  intro pins s σ H D I h
  refine wpAny_If (thn (hc pins s σ H _ I h) fun d s1 ⟨H1, I1, q1⟩ => ?_)
  cases d with
  | true => exact ha pins s1 σ H1 D I1 q1
  | false => exact hb pins s1 σ H1 D I1 q1
end

abbrev TG := V → St → Hp → (St → Hp → Prop) → Prop
abbrev TGs := List V → St → Hp → (St → Hp → Prop) → Prop
def PG (X : Cx) (target : Expr) (t : TG) : Prop :=
  ∀ (pins : List (Addr × Obj)) (s : Shared) (σ : St) (H : Hp) (v : V) (u : Value) (Q : St → Hp → Prop), Inv X pins σ H s → RelV v u → t v σ H Q →
    wpAny (model X.prog X.w) X.A (assign target X.env u) (fun _ s' => ∃ σ' H', Inv X pins σ' H' s' ∧ Q σ' H') X.xe s
def PGs (X : Cx) (ts : List Expr) (t : TGs) : Prop :=
  ∀ (pins : List (Addr × Obj)) (s : Shared) (σ : St) (H : Hp) (vs : List V) (us : List Value) (Q : St → Hp → Prop), Inv X pins σ H s → Vals vs us → t vs σ H Q →
    wpAny (model X.prog X.w) X.A (assignInOrder ((assignEach ts X.env).map (·.2)) us) (fun _ s' => ∃ σ' H', Inv X pins σ' H' s' ∧ Q σ' H') X.xe s
abbrev TSet := V → V → V → Hp → (Hp → Prop) → Prop
def PSet (X : Cx) (t : TSet) : Prop :=
  ∀ (pins : List (Addr × Obj)) (s : Shared) (σ : St) (H : Hp) (o i v : V) (ov iv u : Value) (Q : Hp → Prop), Inv X pins σ H s → RelV o ov → RelV i iv → RelV v u → t o i v H Q →
    wpAny (model X.prog X.w) X.A (setItem ov iv u) (fun _ s' => ∃ H', Inv X pins σ H' s' ∧ Q H') X.xe s
section
variable {X : Cx} {pos : Pos}
def gName (i : Nat) : TG := fun v σ H Q => Q (σ.set i (some v)) H
theorem pg_name {i : Nat} {x : Str} (hN : X.N.Nodup) (hi : X.N[i]? = some x) (hx : Loc X.env.scope x) (hf : X.fn x = true ∨ X.env.scope.names.lookup x = some .local := by first | exact .inl rfl | exact .inr rfl | assumption) : PG X (.Name x pos) (gName i) := by
  intro pins s σ H v u Q I r h
  exact wpAny_assign_Name (store_ok I hN hi hx r (fun s' I' => ⟨_, H, I', h⟩) hf)
def gNil : TGs := fun vs σ H Q => vs = [] ∧ Q σ H
def gCons (t : TG) (u : TGs) : TGs := fun vs σ H Q => ∃ v r, vs = v :: r ∧ t v σ H fun σ' H' => u r σ' H' Q
theorem pgs_nil : PGs X [] gNil := by
  intro pins s σ H vs us Q I r h
  obtain ⟨e, h⟩ := h
  subst e
  cases r
  exact assignInOrder_nil ⟨σ, H, I, h⟩
theorem pgs_cons {e : Expr} {es : List Expr} {t : TG} {u : TGs} (h1 : PG X e t) (h2 : PGs X es u)
    (hs : (assignEach (e :: es) X.env).map (·.2) = assign e X.env :: (assignEach es X.env).map (·.2) := by rfl) : PGs X (e :: es) (gCons t u) := by
  intro pins s σ H vs us Q I r h
  obtain ⟨v, vr, e1, h⟩ := h
  subst e1
  cases r with
  | cons r rr =>
    rw [hs]
    refine assignInOrder_cons (thn (h1 pins s σ H _ _ _ I r h) fun _ s1 ⟨σ1, H1, I1, q1⟩ => ?_)
    exact h2 pins s1 σ1 H1 _ _ Q I1 rr q1
def gTup (K : PySem.W.Frag) (n : Nat) (t : TGs) : TG := fun v σ H Q => ∃ a xs, v = .ref a ∧ SqT K H a xs ∧ xs.length = n ∧ t xs σ H Q
theorem pg_tup {es : List Expr} {k : Nat} {t : TGs} {n : Nat} (hc : X.calm = true) (h : PGs X es t)
    (hn : (assignEach es X.env).length = n := by rfl) (hst : (assignEach es X.env).findIdx? (·.1) = none := by rfl) : PG X (.Tuple es k pos) (gTup X.K n t) := by
  intro pins s σ H v u Q I r hw
  obtain ⟨a, xs, e1, hq, hl, hw⟩ := hw
  subst e1
  cases r
  obtain ⟨its, rv, ht, hz⟩ := I.tuple hq
  refine assign_Tuple_tuple (I.ok.hd hc) ht (by simp [hn, ← hl, rv.length]) hst fun h' hx => ?_
  have I1 : Inv X pins σ H { s with heap := h' } := I.kept (t' := s.toks) fun b o e => hx b o (Nat.ne_of_lt (Heap.lt_size e)) e
  exact h pins _ σ H xs _ Q I1 (by simpa using rv) hw
def gSub (to ti : TE) (t : TSet) : TG := fun v σ H Q => to σ H fun o H1 => ti σ H1 fun i H2 => t o i v H2 fun H3 => Q σ H3
theorem pg_sub {o i : Expr} {to ti : TE} {t : TSet} (ho : PE X o to) (hi : PE X i ti) (hs : PSet X t)
    (ha : ∀ v, assign (.Subscript o i pos) X.env v = (do
      let ov ← holding [v] (eval o X.env)
      let iv ← holding [v, ov] (eval i X.env)
      standAt pos
      holding [v, ov, iv] (setItem ov iv v)
      release [v, ov, iv] []) := by intro _; rfl) : PG X (.Subscript o i pos) (gSub to ti t) := by
  intro pins s σ H v u Q I r h
  rw [ha]
  refine wpAny_bind (wpAny_holding (thn (ho pins s σ H _ I h) fun ov s1 ⟨x, H1, I1, r1, q1⟩ => ?_))
  refine wpAny_bind (wpAny_holding (thn (hi pins s1 σ H1 _ I1 q1) fun iv s2 ⟨y, H2, I2, r2, q2⟩ => ?_))
  refine wpAny_bind (wpAny_standAt (wpAny_bind (wpAny_holding (thn (hs pins s2 σ H2 x y v ov iv u _ I2 r1 r2 r q2) fun _ s3 ⟨H3, I3, q3⟩ => ?_))))
  exact wpAny_release ⟨σ, H3, I3, q3⟩
def tAsg (te : TE) (g : TG) : TS := fun D σ H => te σ H fun x H1 => g x σ H1 D.nx
theorem ps_asg {tg e : Expr} {te : TE} {g : TG} (he : PE X e te) (hg : PG X tg g) (hs : swapsWithSole [tg] e pos.line X.env = pure false := by rfl) (hw : swappedStores [tg] e X.env = pure none := by rfl)
    (h1 : (assignEach [tg] X.env).map (·.2) = [assign tg X.env] := by rfl) : PS X (.Assign [tg] e pos) (tAsg te g) := by
  intro pins s σ H D I h
  refine wpAny_Assign_stores (thn (he pins s σ H _ I h) fun v s1 ⟨x, H1, I1, r1, q1⟩ => ?_) hs hw
  rw [h1]
  exact thn (hg pins s1 σ H1 x v _ I1 r1 q1) fun _ s2 q => q
theorem ps_set {i : Nat} {x : Str} {e : Expr} {te : TE} {pos' : Pos} (hN : X.N.Nodup) (hi : X.N[i]? = some x) (hx : Loc X.env.scope x) (he : PE X e te) (hs : swapsWith e (some (.Name x pos')) pos.line X.env = pure false := by rfl) (hf : X.fn x = true ∨ X.env.scope.names.lookup x = some .local := by first | exact .inl rfl | exact .inr rfl | assumption) :
    PS X (.Assign [.Name x pos'] e pos) (tAsg te (gName i)) := by
  intro pins s σ H D I h
  refine wpAny_Assign_Name (thn (he pins s σ H _ I h) fun v s1 ⟨y, H1, I1, r1, q1⟩ => ?_) hs
  exact store_ok I1 hN hi hx r1 (fun s2 I2 => ⟨_, H1, I2, q1⟩) hf
def tPar (i j : Nat) (ta : TA) : TS := fun D σ H => ta σ H fun vs H1 => ∃ v w, vs = [v, w] ∧ D.nx ((σ.set i (some v)).set j (some w)) H1
theorem ps_par {i j : Nat} {x y : Str} {a b : Expr} {ta : TA} {px py pt : Pos} {kt k2 pt2} (hc : X.calm = true) (hN : X.N.Nodup) (hi : X.N[i]? = some x) (hj : X.N[j]? = some y) (hij : i ≠ j)
    (hx : X.env.scope.names.lookup x = some .local) (hy : X.env.scope.names.lookup y = some .local) (ha : PA X [a, b] ta)
    (hw : swappedStores [.Tuple [.Name x px, .Name y py] kt pt] (.Tuple [a, b] k2 pt2) X.env = pure (some [x, y]))
    (hs : swapsWithSole [.Tuple [.Name x px, .Name y py] kt pt] (.Tuple [a, b] k2 pt2) pos.line X.env = pure false := by rfl) :
    PS X (.Assign [.Tuple [.Name x px, .Name y py] kt pt] (.Tuple [a, b] k2 pt2) pos) (tPar i j ta) := by
  intro pins s σ H D I h
  rw [exec_Assign_arm]
  refine wpAny_bind (wpAny_standAt ?_)
  rw [hs]
  refine wpAny_bind (wpAny_pure ?_)
  rw [if_neg (by decide)]
  refine wpAny_bind (Tuple_ (thn (ha _ pins s σ H _ I h) fun us s1 ⟨vs, H1, I1, r1, q1⟩ => ?_))
  obtain ⟨v, w, e1, q1⟩ := q1
  subst e1
  obtain ⟨u1, u2, rfl, rv, rw'⟩ : ∃ u1 u2, us = [u1, u2] ∧ RelV v u1 ∧ RelV w u2 := by
    cases r1 with
    | cons p q =>
      cases q with
      | cons p' q' =>
        cases q'
        exact ⟨_, _, rfl, p, p'⟩
  refine wpAny_newObj_type ?_ (by show 2 ≤ sizeLine; decide)
  have I2 : Inv X pins σ H1 { s1 with heap := s1.heap.push { cls := .type "tuple", data := .seq [u1, u2].toArray } } := I1.kept (t' := s1.toks) fun b o e => Heap.get?_push_of_some _ e
  rw [hw]
  refine wpAny_bind (wpAny_pure ?_)
  show wpAny (model X.prog X.w) X.A (do rule "assign.swapped-stores"; let items ← unpackItems (.ref s1.heap.objs.size) 2 none; assignInOrder [fun v => bindName X.env y v, fun v => bindName X.env x v] items.reverse; pure Flow.next) _ _ _
  refine wpAny_bind (wpAny_rule (wpAny_bind (unpackItems_tuple (items := #[u1, u2]) (I.ok.hd hc) (IsTup.new s1.heap _) fun h' hx' => ?_)))
  have I3 := I2.kept (h' := h') (t' := s1.toks) fun b o e => hx' b o (Nat.ne_of_lt (Heap.lt_size e)) e
  show wpAny _ _ (assignInOrder [fun v => bindName X.env y v, fun v => bindName X.env x v] [u2, u1] >>= fun _ => pure Flow.next) _ _ _
  refine wpAny_bind (assignInOrder_cons (wpAny_bindName (store_ok I3 hN hj (.inl hy) rw' (fun s2 I4 => ?_) (.inr hy))))
  refine assignInOrder_cons (wpAny_bindName (store_ok I4 hN hi (.inl hx) rv (fun s3 I5 => assignInOrder_nil (wpAny_pure ?_)) (.inr hx)))
  rw [List.set_comm _ _ (Ne.symm hij)] at I5
  exact ⟨_, H1, I5, q1⟩
end

section
variable {X : Cx} {pos : Pos}
def tWhile (c : TT) (tb : TS) : TS := fun D σ H => ∃ W : Nat → St → Hp → Prop, (∃ m, W m σ H) ∧ ∀ m σ H, W m σ H →
  c σ H fun b H1 => if b = true then ∃ N : St → Hp → Prop, (∀ σ' H', N σ' H' → ∃ m', m' < m ∧ W m' σ' H') ∧ tb { D with nx := N, ct := N, bk := D.nx } σ H1 else D.nx σ H1
theorem ps_while {c : Expr} {body : List Stmt} {tc : TT} {tb : TS} (hp : PassesOwn (model X.prog X.w) X.A X.env X.xe) (hc : PT X c tc) (hb : PSs X body tb) : PS X (.While c body [] pos) (tWhile tc tb) := by
  intro pins s σ H D I h
  obtain ⟨W, ⟨m0, w0⟩, turn⟩ := h
  refine wpAny_While (codeAny_whileLoop (fun n s' => ∃ σ' H', Inv X pins σ' H' s' ∧ W n σ' H') ?_ m0 ⟨σ, H, I, w0⟩)
  rintro n s1 ⟨σ1, H1, I1, w1⟩
  refine wpAny_passesOwn hp (thn (hc pins s1 σ1 H1 _ I1 (turn n σ1 H1 w1)) fun b s2 ⟨H2, I2, q2⟩ => ?_)
  cases b with
  | true =>
    obtain ⟨N, hN, q2⟩ := q2
    rw [if_pos rfl]
    refine wpAny_passesOwn hp (thn (hb pins s2 σ1 H2 _ I2 q2) fun f s3 q3 => ?_)
    cases f with
    | next =>
      obtain ⟨σ3, H3, I3, n3⟩ := q3
      obtain ⟨m', hm, w3⟩ := hN σ3 H3 n3
      exact ⟨m', hm, σ3, H3, I3, w3⟩
    | cont =>
      obtain ⟨σ3, H3, I3, n3⟩ := q3
      obtain ⟨m', hm, w3⟩ := hN σ3 H3 n3
      exact ⟨m', hm, σ3, H3, I3, w3⟩
    | brk => exact q3
    | ret v => exact q3
  | false =>
    rw [if_neg Bool.false_ne_true]
    exact wpAny_execs_nil ⟨σ1, H2, I2, q2⟩
end

structure It where
  go : Nat → Hp → Prop
  yld : Nat → Hp → V → Hp → Prop
  stop : Nat → Hp → Prop
def FpOk (X : Cx) (pins : List (Addr × Obj)) (H : Hp) (b : Addr) : Prop :=
  H b = none ∧ b ≠ X.env.locals ∧ b ∉ X.fs ∧ (b ∈ X.ex ∨ X.s₀.heap.objs.size ≤ b) ∧ (∀ x c, X.env.cells.lookup x = some c → c ≠ b) ∧ ∀ p ∈ X.pn ++ pins, p.1 ≠ b
theorem Inv.fpOk {X : Cx} {pins : List (Addr × Obj)} {σ : St} {H H' : Hp} {s : Shared} {b : Addr} (I : Inv X pins σ H s) (hb : s.heap.objs.size ≤ b) (hn : H' b = none) : FpOk X pins H' b := by
  refine ⟨hn, Nat.ne_of_gt (Nat.lt_of_lt_of_le I.lt hb), I.nofs hb, .inr (Nat.le_trans I.sz hb), fun x c e z => ?_, fun p hp z => ?_⟩
  · obtain ⟨v, q⟩ := I.cell x c e
    exact absurd (Nat.lt_of_lt_of_le q.lt (by rw [z]; exact hb)) (Nat.lt_irrefl _)
  · exact absurd (Nat.lt_of_lt_of_le (Heap.lt_size (I.pin p hp).1) (by rw [z]; exact hb)) (Nat.lt_irrefl _)
structure Turn (P : Program) (w : World) (K : PySem.W.Frag) (tg : Expr) (J : It) (fp : List Addr) (it : Addr) (tn : Nat → Heap → Prop) : Prop where
  mem : it ∈ fp
  obj : ∀ i h, tn i h → ∀ b ∈ fp, ∃ o, h.get? b = some o ∧ ∀ v, o.data ≠ .cell v
  keep : ∀ i h h', tn i h → (∀ b ∈ fp, ∀ o, h.get? b = some o → h'.get? b = some o) → tn i h'
  item : ∀ (X : Cx), X.prog = P → X.w = w → X.K = K → X.calm = true → ∀ (i : Nat) (pins : List (Addr × Obj)) (s : Shared) (σ : St) (H : Hp) (E : Value → Shared → Prop), Inv X pins σ H s → (∀ b ∈ fp, FpOk X pins H b) → tn i s.heap → J.go i H →
    wpAny (model P w) X.A (pyNext (.ref it)) (fun r s1 => ∃ u, r = some u ∧
      wpAny (model P w) X.A (letOwnedTupleGo tg (.ref it) u) (fun _ s2 => ∃ x H', Inv X pins σ H' s2 ∧ RelV x u ∧ J.yld i H x H' ∧ tn (i + 1) s2.heap ∧ ∀ b ∈ fp, H' b = none) E s1) E s
  done : ∀ (X : Cx), X.prog = P → X.w = w → X.K = K → X.calm = true → ∀ (i : Nat) (pins : List (Addr × Obj)) (s : Shared) (σ : St) (H : Hp) (E : Value → Shared → Prop), Inv X pins σ H s → (∀ b ∈ fp, FpOk X pins H b) → tn i s.heap → J.stop i H →
    wpAny (model P w) X.A (pyNext (.ref it)) (fun r s1 => r = none ∧ Inv X pins σ H s1) E s
  self : ∀ (A : Around) (i : Nat) (s : Shared) (Q : Value → Shared → Prop) (E : Value → Shared → Prop), tn i s.heap → Q (.ref it) s → wpAny (model P w) A (pyIter (.ref it)) Q E s
abbrev TI := St → Hp → (It → Hp → Prop) → Prop
def PIE (X : Cx) (pins : List (Addr × Obj)) (σ : St) (tg : Expr) (R : It → Hp → Prop) (itv : Value) (s2 : Shared) : Prop :=
  ∃ (it : Addr) (fp : List Addr) (tn : Nat → Heap → Prop) (J : It) (H' : Hp), itv = .ref it ∧ Inv X pins σ H' s2 ∧ Turn X.prog X.w X.K tg J fp it tn ∧ tn 0 s2.heap ∧ (∀ b ∈ fp, FpOk X pins H' b) ∧ R J H'
def PI (X : Cx) (tg iter : Expr) (wi : TI) : Prop :=
  ∀ (pins : List (Addr × Obj)) (s : Shared) (σ : St) (H : Hp) (R : It → Hp → Prop), Inv X pins σ H s → wi σ H R →
    wpAny (model X.prog X.w) X.A (eval iter X.env) (fun v s1 => wpAny (model X.prog X.w) X.A (pyIter v) (PIE X pins σ tg R) X.xe s1) X.xe s

theorem go_of {M : Model} {A : Around} {E : Value → Shared → Prop} {s : Shared} {tg : Expr} {it : Addr} {u : Value} {o : Obj} {n : String} {vs : Array Value} {Q : Unit → Shared → Prop} (ho : s.heap.get? it = some o) (hc : o.cls = .type n) (hd : o.data = .fields vs)
    (hn : ["enumerate", "zip", "dict_itemiterator", "dict_reverseitemiterator", "odict_iterator", "itertools.zip_longest", "itertools.pairwise"].contains n = false) (hQ : Q () s) : wpAny M A (letOwnedTupleGo tg (.ref it) u) Q E s := by
  unfold letOwnedTupleGo
  cases tg <;> first
    | exact wpAny_pure hQ
    | (cases u <;> first
        | exact wpAny_pure hQ
        | (refine wpAny_bind (wpAny_load ho ?_)
           rw [hc, hd]
           show wpAny M A (if (["enumerate", "zip", "dict_itemiterator", "dict_reverseitemiterator", "odict_iterator", "itertools.zip_longest", "itertools.pairwise"].contains n && vs[0]? == some (rawInt _)) = true then _ else _) Q E s
           rw [if_neg (by intro h; rw [hn, Bool.false_and] at h; cases h)]
           exact wpAny_pure hQ))

def Itl (K : PySem.W.Frag) (a : Addr) : It :=
  ⟨fun i H => ∃ xs x, SqL K H a xs ∧ xs[i]? = some x, fun i H x H' => H' = H ∧ ∀ xs, SqL K H a xs → xs[i]? = some x, fun i H => ∃ xs, SqL K H a xs ∧ xs.length ≤ i⟩
def Itt (K : PySem.W.Frag) (a : Addr) : It :=
  ⟨fun i H => ∃ xs x, SqT K H a xs ∧ xs[i]? = some x, fun i H x H' => H' = H ∧ ∀ xs, SqT K H a xs → xs[i]? = some x, fun i H => ∃ xs, SqT K H a xs ∧ xs.length ≤ i⟩
def Itr (lo : Int) (n : Nat) : It := ⟨fun i _ => i < n, fun i H x H' => H' = H ∧ x = .int (lo + i), fun i _ => n ≤ i⟩
theorem turn_list {P : Program} {w : World} {K : PySem.W.Frag} {tg : Expr} (a it : Addr) : Turn P w K tg (Itl K a) [it] it (fun i h => h.IsListIter it a i) where
  mem := by simp
  obj := fun i h st b hb => by
    have e : b = it := by simpa using hb
    subst e
    obtain ⟨o, e, c, d⟩ := st
    exact ⟨o, e, fun v z => by rw [d] at z; cases z⟩
  keep := fun i h h' st k => st.at fun o e => k it (by simp) o e
  item := by
    intro X hP hw hK hc i pins s σ H E I hf st hg
    subst hP hw hK
    obtain ⟨xs, x, hq, hx⟩ := hg
    obtain ⟨its, rv, p, hz⟩ := I.list hq
    obtain ⟨u, hu, ru⟩ := rv.get hx
    obtain ⟨f0, f1, f2, f3, f4, f5⟩ := hf it (by simp)
    refine wpAny_pyNext_list_item st p.isList (x := u) (by simpa using hu) fun h' st' sb => ?_
    have I1 : Inv X pins σ H { s with heap := h' } := I.turned (t' := s.toks) (fun b o hb e => (sb.2 b hb).trans e) f0 f1 f3 f4 f5
    obtain ⟨o, e, c, d⟩ := id st'
    exact ⟨u, rfl, go_of (s := { s with heap := h' }) e c d (by decide) ⟨x, H, I1, ru, ⟨rfl, fun ys hy => by rw [I.list_inj hy hq]; exact hx⟩, st', fun b hb => (hf b hb).1⟩⟩
  done := by
    intro X hP hw hK hc i pins s σ H E I hf st hg
    subst hP hw hK
    obtain ⟨xs, hq, hx⟩ := hg
    obtain ⟨its, rv, p, hz⟩ := I.list hq
    obtain ⟨f0, f1, f2, f3, f4, f5⟩ := hf it (by simp)
    have hl := rv.length
    exact wpAny_pyNext_list_end (I.ok.hd hc) st p.isList (by simp; omega) fun h' eb => ⟨rfl, I.turned (t' := s.toks) (fun b o hb e => eb b o hb e) f0 f1 f3 f4 f5⟩
  self := fun _ _ _ _ _ st h => wpAny_pyIter_listiter st h
theorem turn_tuple {P : Program} {w : World} {K : PySem.W.Frag} {tg : Expr} (a it : Addr) : Turn P w K tg (Itt K a) [it] it (fun i h => h.IsTupleIter it a i) where
  mem := by simp
  obj := fun i h st b hb => by
    have e : b = it := by simpa using hb
    subst e
    obtain ⟨o, e, c, d⟩ := st
    exact ⟨o, e, fun v z => by rw [d] at z; cases z⟩
  keep := fun i h h' st k => st.at fun o e => k it (by simp) o e
  item := by
    intro X hP hw hK hc i pins s σ H E I hf st hg
    subst hP hw hK
    obtain ⟨xs, x, hq, hx⟩ := hg
    obtain ⟨its, rv, p, hz⟩ := I.tuple hq
    obtain ⟨u, hu, ru⟩ := rv.get hx
    obtain ⟨f0, f1, f2, f3, f4, f5⟩ := hf it (by simp)
    refine wpAny_pyNext_tuple_item st (show s.heap.IsTuple a its.toArray from p) (x := u) (by simpa using hu) fun h' st' sb => ?_
    have I1 : Inv X pins σ H { s with heap := h' } := I.turned (t' := s.toks) (fun b o hb e => (sb.2 b hb).trans e) f0 f1 f3 f4 f5
    obtain ⟨o, e, c, d⟩ := id st'
    exact ⟨u, rfl, go_of (s := { s with heap := h' }) e c d (by decide) ⟨x, H, I1, ru, ⟨rfl, fun ys hy => by rw [I.tuple_inj hy hq]; exact hx⟩, st', fun b hb => (hf b hb).1⟩⟩
  done := by
    intro X hP hw hK hc i pins s σ H E I hf st hg
    subst hP hw hK
    obtain ⟨xs, hq, hx⟩ := hg
    obtain ⟨its, rv, p, hz⟩ := I.tuple hq
    obtain ⟨f0, f1, f2, f3, f4, f5⟩ := hf it (by simp)
    have hl := rv.length
    exact wpAny_pyNext_tuple_end (I.ok.hd hc) st (show s.heap.IsTuple a its.toArray from p) (by simp; omega) fun h' eb => ⟨rfl, I.turned (t' := s.toks) (fun b o hb e => eb b o hb e) f0 f1 f3 f4 f5⟩
  self := fun _ _ _ _ _ st h => wpAny_pyIter_tupleiter st h
theorem turn_range {P : Program} {w : World} {K : PySem.W.Frag} {tg : Expr} (it : Addr) (lo : Int) (n : Nat) : Turn P w K tg (Itr lo n) [it] it (fun i h => IsRangeIter h it (lo + (i : Nat) * 1) ((n : Int) - (i : Nat)) 1) where
  mem := by simp
  obj := fun i h st b hb => by
    have e : b = it := by simpa using hb
    subst e
    exact ⟨_, st, fun v z => by
      have z' : Data.fields _ = Data.cell v := z
      cases z'⟩
  keep := fun i h h' st k => k it (by simp) _ st
  item := by
    intro X hP hw hK hc i pins s σ H E I hf st hg
    subst hP hw hK
    obtain ⟨f0, f1, f2, f3, f4, f5⟩ := hf it (by simp)
    have W := Walks.range (prog := X.prog) (w := X.w) (I.ok.hd hc) it lo 1 n
    refine W.item i s _ _ hg st fun v h' tk hv st' kk => ?_
    obtain ⟨t, rfl⟩ := hv
    have I1 : Inv X pins σ H { s with heap := h', toks := tk } := I.turned (fun b o hb e => kk b o (by simpa using hb) e) f0 f1 f3 f4 f5
    refine ⟨_, rfl, go_of (s := { s with heap := h', toks := tk }) (n := "range_iterator") st' rfl rfl (by decide) ⟨.int (lo + i), H, I1, ⟨t, ?_⟩, ⟨rfl, rfl⟩, st', fun b hb => (hf b hb).1⟩⟩
    rw [Int.mul_one]
  done := by
    intro X hP hw hK hc i pins s σ H E I hf st hg
    subst hP hw hK
    obtain ⟨f0, f1, f2, f3, f4, f5⟩ := hf it (by simp)
    exact wpAny_pyNext_range_end (I.ok.hd hc) st (by have : n ≤ i := hg; omega) fun h' eb => ⟨rfl, I.turned (t' := s.toks) (fun b o hb e => eb b o hb e) f0 f1 f3 f4 f5⟩
  self := fun _ _ _ _ _ st h => wpAny_pyIter_rangeiter st h
end L2

namespace L2
open PySem PySem.Spec PyProof.Rows
section
variable {X : Cx} {tg : Expr}
def iList (K : PySem.W.Frag) (tl : TE) : TI := fun σ H R => tl σ H fun x H1 => ∃ a, x = .ref a ∧ (∃ xs, SqL K H1 a xs) ∧ R (Itl K a) H1
theorem range_it {pins : List (Addr × Obj)} {σ : St} {H : Hp} {s : Shared} {R : It → Hp → Prop} {E : Value → Shared → Prop} {lo hi : Int} {t u v : Tok} {tk : Nat} (I : Inv X pins σ H s) (h1 : -(2 ^ 62) ≤ lo) (h2 : lo < 2 ^ 62) (h3 : -(2 ^ 62) ≤ hi) (h4 : hi < 2 ^ 62)
    (q : R (Itr lo (hi - lo).toNat) H) : wpAny (model X.prog X.w) X.A (pyIter (.ref s.heap.objs.size)) (PIE X pins σ tg R) E { s with heap := s.heap.push { cls := .type "range", data := .fields #[.int lo t, .int hi u, .int 1 v] }, toks := tk } := by
  refine wpAny_pyIter_range (IsRange.new ..) (small_one h1 h2 h3 h4) ?_
  have I1 : Inv X pins σ H { s with heap := s.heap.push { cls := .type "range", data := .fields #[.int lo t, .int hi u, .int 1 v] }, toks := tk } := I.kept fun b o e => Heap.get?_push_of_some _ e
  refine ⟨(s.heap.push { cls := .type "range", data := .fields #[.int lo t, .int hi u, .int 1 v] }).objs.size, [(s.heap.push { cls := .type "range", data := .fields #[.int lo t, .int hi u, .int 1 v] }).objs.size], _, _, H, rfl,
    I1.kept (t' := tk) fun b o e => Heap.get?_push_of_some _ e, turn_range _ lo (hi - lo).toNat, ?_, fun b hb => ?_, q⟩
  · have e1 : lo + ((0 : Nat) : Int) * 1 = lo := by simp
    have e2 : (((hi - lo).toNat : Nat) : Int) - ((0 : Nat) : Int) = Builtin.Range.rangeSize lo hi 1 := by rw [rangeSize_one]; split <;> omega
    show IsRangeIter _ _ (lo + ((0 : Nat) : Int) * 1) ((((hi - lo).toNat : Nat) : Int) - ((0 : Nat) : Int)) 1
    rw [e1, e2]
    exact Heap.get?_push_size _ rfl
  · have e : b = (s.heap.push { cls := .type "range", data := .fields #[.int lo t, .int hi u, .int 1 v] }).objs.size := by simpa using hb
    subst e
    exact I1.fpOk (Nat.le_refl _) (I1.hok.fresh (Nat.le_refl _))
def iRng1 (ta : TA) : TI := fun σ H R => ta σ H fun vs H1 => ∃ j : Int, vs = [.int j] ∧ -(2 ^ 62) ≤ j ∧ j < 2 ^ 62 ∧ R (Itr 0 j.toNat) H1
def iRng2 (ta : TA) : TI := fun σ H R => ta σ H fun vs H1 => ∃ i j : Int, vs = [.int i, .int j] ∧ (-(2 ^ 62) ≤ i ∧ i < 2 ^ 62 ∧ -(2 ^ 62) ≤ j ∧ j < 2 ^ 62) ∧ R (Itr i (j - i).toNat) H1
theorem pi_range1 {a : Expr} {ta : TA} {p pos : Pos} (hg : Gl X "range") (hm : X.mg "range" = none) (ha : PA X [a] ta) (hs : starEach [a] X.env = [(false, eval a X.env)] := by rfl) : PI X tg (.Call (.Name "range" p) [a] [] pos) (iRng1 ta) := by
  intro pins s σ H R I h
  refine Call_ (ld_blt I hg hm boot_range (PyProof.Rows.callWith_type1 (thn (ha pos pins s σ H _ I h) fun us s1 ⟨vs, H1, I1, r1, q1⟩ => ?_) hs rfl))
  obtain ⟨j, e, q1, q2, q⟩ := q1
  subst e
  cases r1 with
  | cons r rr =>
    cases rr
    obtain ⟨t, rfl⟩ := r
    exact call_range_1 (range_it I1 (by omega) (by omega) q1 q2 (by simpa using q))
def tFor (wi : TI) (g : TG) (tb : TS) : TS := fun D σ H => wi σ H fun J H1 => ∃ W : Nat → Nat → St → Hp → Prop, (∃ m, W 0 m σ H1) ∧ ∀ i m σ H, W i m σ H →
  (J.stop i H ∧ D.nx σ H) ∨ (J.go i H ∧ ∃ N : St → Hp → Prop, (∀ σ' H', N σ' H' → ∃ m', m' < m ∧ W (i + 1) m' σ' H') ∧ ∀ x H', J.yld i H x H' → g x σ H' fun σ2 H2 => tb { D with nx := N, ct := N, bk := D.nx } σ2 H2)
def pinsAt (fp : List Addr) (h : Heap) : List (Addr × Obj) := fp.filterMap fun b => (h.get? b).map fun o => (b, o)
theorem mem_pinsAt {fp : List Addr} {h : Heap} {b : Addr} {o : Obj} (hb : b ∈ fp) (e : h.get? b = some o) : (b, o) ∈ pinsAt fp h := List.mem_filterMap.mpr ⟨b, hb, by rw [e]; rfl⟩
theorem of_pinsAt {fp : List Addr} {h : Heap} {p : Addr × Obj} (hp : p ∈ pinsAt fp h) : p.1 ∈ fp ∧ h.get? p.1 = some p.2 := by
  obtain ⟨b, hb, e⟩ := List.mem_filterMap.mp hp
  cases q : h.get? b with
  | none => rw [q] at e; cases e
  | some o =>
    rw [q] at e
    have e' : (b, o) = p := Option.some.inj e
    subst e'
    exact ⟨hb, q⟩
theorem Inv.pinned {pins : List (Addr × Obj)} {σ : St} {H : Hp} {s : Shared} {fp : List Addr} (I : Inv X pins σ H s) (hf : ∀ b ∈ fp, FpOk X pins H b) (ho : ∀ b ∈ fp, ∃ o, s.heap.get? b = some o ∧ ∀ v, o.data ≠ .cell v) : Inv X (pins ++ pinsAt fp s.heap) σ H s :=
  I.pins_of fun p hp => (List.mem_append.mp hp).elim (fun z => I.pin p (List.mem_append_right _ z)) fun z => by
    obtain ⟨hb, e⟩ := of_pinsAt z
    obtain ⟨f0, f1, f2, _⟩ := hf p.1 hb
    obtain ⟨o, e', d⟩ := ho p.1 hb
    rw [e] at e'; cases e'
    exact ⟨e, f0, f1, f2, d⟩
theorem Inv.unpinned {pins pl : List (Addr × Obj)} {σ : St} {H : Hp} {s : Shared} (I : Inv X (pins ++ pl) σ H s) : Inv X pins σ H s := I.pins_of fun p hp => I.pin p (List.mem_append_right _ (List.mem_append_left _ hp))
theorem ps_for {iter : Expr} {body : List Stmt} {wi : TI} {g : TG} {tb : TS} {pos : Pos} (hp : PassesOwn (model X.prog X.w) X.A X.env X.xe) (hc : X.calm = true) (hi : PI X tg iter wi) (hg : PG X tg g) (hb : PSs X body tb)
    (hs : ∀ x, foldedSetIterable iter X.env x = pure x := by intro _; rfl) : PS X (.For tg iter body [] pos) (tFor wi g tb) := by
  intro pins s σ H D I h
  refine wpAny_For (thn (hi pins s σ H _ I h) fun v s1 h1 => thn h1 fun itv s2 h2 => ?_) hs
  obtain ⟨it, fp, tn, J, H2, e, I2, T, st2, f2, W, ⟨m0, w0⟩, turn⟩ := h2
  subst e
  -- what stays true of the iterator's objects through the loop
  have stat : ∀ {H' : Hp}, (∀ b ∈ fp, H' b = none) → ∀ b ∈ fp, FpOk X pins H' b := fun hn b hb => ⟨hn b hb, (f2 b hb).2⟩
  refine codeAny_forLoop_any (fun n s' => ∃ i σ' H', Inv X pins σ' H' s' ∧ tn i s'.heap ∧ (∀ b ∈ fp, H' b = none) ∧ W i n σ' H') ?_ m0 ⟨0, σ, H2, I2, st2, fun b hb => (f2 b hb).1, w0⟩
  rintro n s3 ⟨i, σ3, H3, I3, st3, fr3, w3⟩
  rcases turn i n σ3 H3 w3 with ⟨stop, qn⟩ | ⟨go, N, hN, step⟩
  · refine wpAny_passesOwn hp (thn (T.done X rfl rfl rfl hc i pins s3 σ3 H3 X.xe I3 (stat fr3) st3 stop) fun r s4 ⟨hr, I4⟩ => ?_)
    subst hr
    exact wpAny_execs_nil ⟨σ3, H3, I4, qn⟩
  · refine wpAny_passesOwn hp (thn (T.item X rfl rfl rfl hc i pins s3 σ3 H3 X.xe I3 (stat fr3) st3 go) fun r s4 ⟨u, hr, h4⟩ => ?_)
    subst hr
    refine wpAny_passesOwn hp (thn h4 fun _ s5 ⟨x, H5, I5, r5, y5, st5, fr5⟩ => ?_)
    have I5' := I5.pinned (stat fr5) (T.obj _ _ st5)
    refine wpAny_passesOwn hp (thn (hg _ s5 σ3 H5 x u _ I5' r5 (step x H5 y5)) fun _ s6 ⟨σ6, H6, I6, q6⟩ => ?_)
    refine wpAny_passesOwn hp (thn (hb _ s6 σ6 H6 _ I6 q6) fun f s7 q7 => ?_)
    have again : ∀ {σ7 : St} {H7 : Hp}, Inv X (pins ++ pinsAt fp s5.heap) σ7 H7 s7 → N σ7 H7 → ∃ m, m < n ∧ ∃ i σ' H', Inv X pins σ' H' s7 ∧ tn i s7.heap ∧ (∀ b ∈ fp, H' b = none) ∧ W i m σ' H' := fun {σ7 H7} I7 n7 => by
      obtain ⟨m', hm, w7⟩ := hN σ7 H7 n7
      refine ⟨m', hm, i + 1, σ7, H7, I7.unpinned, T.keep _ _ _ st5 fun b hb o e => (I7.pin (b, o) (List.mem_append_right _ (List.mem_append_right _ (mem_pinsAt hb e)))).1, fun b hb => ?_, w7⟩
      obtain ⟨o, e, d⟩ := T.obj _ _ st5 b hb
      exact (I7.pin (b, o) (List.mem_append_right _ (List.mem_append_right _ (mem_pinsAt hb e)))).2.1
    cases f with
    | next => obtain ⟨σ7, H7, I7, n7⟩ := q7; exact again I7 n7
    | cont => obtain ⟨σ7, H7, I7, n7⟩ := q7; exact again I7 n7
    | brk => obtain ⟨σ7, H7, I7, q7⟩ := q7; exact ⟨σ7, H7, I7.unpinned, q7⟩
    | ret v => obtain ⟨x7, σ7, H7, I7, r7, q7⟩ := q7; exact ⟨x7, σ7, H7, I7.unpinned, r7, q7⟩
end

theorem for_list {K : PySem.W.Frag} {a : Addr} {xs : List V} {g : TG} {tb : TS} {D : Ends} {σ : St} {H : Hp} (Pv : Nat → St → Hp → Prop) (h0 : Pv 0 σ H) (hl : ∀ i σ H, i ≤ xs.length → Pv i σ H → SqL K H a xs)
    (hs : ∀ i x σ H, xs[i]? = some x → Pv i σ H → g x σ H fun σ2 H2 => tb { D with nx := Pv (i + 1), ct := Pv (i + 1), bk := D.nx } σ2 H2) (hd : ∀ σ H, Pv xs.length σ H → D.nx σ H) :
    ∃ W : Nat → Nat → St → Hp → Prop, (∃ m, W 0 m σ H) ∧ ∀ i m σ H, W i m σ H →
      ((Itl K a).stop i H ∧ D.nx σ H) ∨ ((Itl K a).go i H ∧ ∃ N : St → Hp → Prop, (∀ σ' H', N σ' H' → ∃ m', m' < m ∧ W (i + 1) m' σ' H') ∧ ∀ x H', (Itl K a).yld i H x H' → g x σ H' fun σ2 H2 => tb { D with nx := N, ct := N, bk := D.nx } σ2 H2) := by
  refine ⟨fun i m σ H => m = xs.length - i ∧ i ≤ xs.length ∧ Pv i σ H, ⟨xs.length, by simp, Nat.zero_le _, h0⟩, ?_⟩
  rintro i m σ H ⟨rfl, hi, p⟩
  have q := hl i σ H hi p
  by_cases hlt : i < xs.length
  · refine .inr ⟨⟨xs, xs[i], q, by simp [hlt]⟩, Pv (i + 1), fun σ' H' p' => ⟨xs.length - (i + 1), by omega, rfl, hlt, p'⟩, fun x H' y => ?_⟩
    obtain ⟨e, y⟩ := y
    subst e
    exact hs i x σ _ (y xs q) p
  · have e : i = xs.length := by omega
    subst e
    exact .inl ⟨⟨xs, q, Nat.le_refl _⟩, hd σ H p⟩
theorem for_range {lo : Int} {n : Nat} {g : TG} {tb : TS} {D : Ends} {σ : St} {H : Hp} (Pv : Nat → St → Hp → Prop) (h0 : Pv 0 σ H)
    (hs : ∀ i σ H, i < n → Pv i σ H → g (.int (lo + i)) σ H fun σ2 H2 => tb { D with nx := Pv (i + 1), ct := Pv (i + 1), bk := D.nx } σ2 H2) (hd : ∀ σ H, Pv n σ H → D.nx σ H) :
    ∃ W : Nat → Nat → St → Hp → Prop, (∃ m, W 0 m σ H) ∧ ∀ i m σ H, W i m σ H →
      ((Itr lo n).stop i H ∧ D.nx σ H) ∨ ((Itr lo n).go i H ∧ ∃ N : St → Hp → Prop, (∀ σ' H', N σ' H' → ∃ m', m' < m ∧ W (i + 1) m' σ' H') ∧ ∀ x H', (Itr lo n).yld i H x H' → g x σ H' fun σ2 H2 => tb { D with nx := N, ct := N, bk := D.nx } σ2 H2) := by
  refine ⟨fun i m σ H => m = n - i ∧ i ≤ n ∧ Pv i σ H, ⟨n, by simp, Nat.zero_le _, h0⟩, ?_⟩
  rintro i m σ H ⟨rfl, hi, p⟩
  by_cases hlt : i < n
  · refine .inr ⟨hlt, Pv (i + 1), fun σ' H' p' => ⟨n - (i + 1), by omega, rfl, hlt, p'⟩, fun x H' y => ?_⟩
    obtain ⟨e, y⟩ := y
    subst e y
    exact hs i σ _ hlt p
  · have e : i = n := by omega
    subst e
    exact .inl ⟨Nat.le_refl _, hd σ H p⟩
end L2

namespace L2
open PySem PySem.Spec PyProof.Rows

abbrev R2 := V → V → Hp → VK → Prop
def OpR (X : Cx) (f : Value → Value → Sem Value) (r : R2) : Prop :=
  ∀ (pins : List (Addr × Obj)) (s : Shared) (σ : St) (H : Hp) (x y : V) (v u : Value) (Q : VK), Inv X pins σ H s → RelV x v → RelV y u → r x y H Q →
    wpAny (model X.prog X.w) X.A (f v u) (EP X pins σ Q) X.xe s
def UnR (X : Cx) (f : Value → Sem Value) (r : V → Hp → VK → Prop) : Prop :=
  ∀ (pins : List (Addr × Obj)) (s : Shared) (σ : St) (H : Hp) (x : V) (v : Value) (Q : VK), Inv X pins σ H s → RelV x v → r x H Q →
    wpAny (model X.prog X.w) X.A (f v) (EP X pins σ Q) X.xe s
def CallR (X : Cx) (f : Value) (r : List V → Hp → VK → Prop) : Prop :=
  ∀ (pins : List (Addr × Obj)) (s : Shared) (σ : St) (H : Hp) (xs : List V) (us : List Value) (Q : VK), Inv X pins σ H s → Vals xs us → r xs H Q →
    wpAny (model X.prog X.w) X.A (call f us) (EP X pins σ Q) X.xe s
def tOp (r : R2) (ta tb : TE) : TE := fun σ H Q => ta σ H fun x H1 => tb σ H1 fun y H2 => r x y H2 Q
def tUn (r : V → Hp → VK → Prop) (ta : TE) : TE := fun σ H Q => ta σ H fun x H1 => r x H1 Q
def rI (C : Int → Int → Prop) (g : Int → Int → V) : R2 := fun x y H Q => ∃ i j, x = .int i ∧ y = .int j ∧ C i j ∧ Q (g i j) H
def rI0 (g : Int → Int → V) : R2 := fun x y H Q => ∃ i j, x = .int i ∧ y = .int j ∧ Q (g i j) H
def rU (g : Int → V) : V → Hp → VK → Prop := fun x H Q => ∃ i, x = .int i ∧ Q (g i) H

section
variable {X : Cx} {a b c : Expr} {ta tb tc : TE} {pos : Pos}

theorem binT (ha : PE X a ta) (hb : PE X b tb) {pins : List (Addr × Obj)} {s : Shared} {σ : St} {H : Hp} {R : V → V → Hp → Prop} (I : Inv X pins σ H s)
    (h : ta σ H fun x H1 => tb σ H1 fun y H2 => R x y H2) {Q : Value → Shared → Prop} {f : Value → Value → Sem Value}
    (hf : ∀ v u s2 x y H2, Inv X pins σ H2 s2 → RelV x v → RelV y u → R x y H2 → wpAny (model X.prog X.w) X.A (f v u) Q X.xe s2) :
    wpAny (model X.prog X.w) X.A (eval a X.env) (fun v s₁ => wpAny (model X.prog X.w) X.A (eval b X.env) (fun u s₂ => wpAny (model X.prog X.w) X.A (f v u) Q X.xe s₂) X.xe s₁) X.xe s := by
  refine thn (ha pins s σ H _ I h) fun v s1 ⟨x, H1, I1, r1, q1⟩ => ?_
  refine thn (hb pins s1 σ H1 _ I1 q1) fun u s2 ⟨y, H2, I2, r2, q2⟩ => ?_
  exact hf v u s2 x y H2 I2 r1 r2 q2

theorem pe_op {op : Operator} {r : R2} (ho : OpR X (binaryOp op) r) (ha : PE X a ta) (hb : PE X b tb) : PE X (.BinOp a op b pos) (tOp r ta tb) := by
  intro pins s σ H Q I h
  exact wpAny_BinOp (binT ha hb I h fun v u s2 x y H2 I2 rx ry q => ho pins s2 σ H2 x y v u Q I2 rx ry q)
theorem pe_un {op : UnaryOp} {r : V → Hp → VK → Prop} (ho : UnR X (unaryOp op) r) (ha : PE X a ta) : PE X (.UnaryOp op a pos) (tUn r ta) := by
  intro pins s σ H Q I h
  exact UnaryOp_ (thn (ha pins s σ H _ I h) fun v s1 ⟨x, H1, I1, r1, q1⟩ => ho pins s1 σ H1 x v Q I1 r1 q1)
theorem opI {f : Value → Value → Sem Value} {C : Int → Int → Prop} {g : Int → Int → Int}
    (rule : ∀ (i j : Int) (t u : Tok) (s : Shared) (Q : Value → Shared → Prop) (E : Value → Shared → Prop), C i j → Q (.int (g i j) s.toks) { s with toks := s.toks + 1 } → wpAny (model X.prog X.w) X.A (f (.int i t) (.int j u)) Q E s) :
    OpR X f (rI C fun i j => .int (g i j)) := by
  intro pins s σ H x y v u Q I rx ry h
  obtain ⟨i, j, rfl, rfl, hc, q⟩ := h
  obtain ⟨t, rfl⟩ := rx
  obtain ⟨t', rfl⟩ := ry
  exact rule i j t t' s _ _ hc ⟨.int (g i j), H, I.tok _, ⟨_, rfl⟩, q⟩
theorem opI0 {f : Value → Value → Sem Value} {g : Int → Int → Int}
    (rule : ∀ (i j : Int) (t u : Tok) (s : Shared) (Q : Value → Shared → Prop) (E : Value → Shared → Prop), Q (.int (g i j) s.toks) { s with toks := s.toks + 1 } → wpAny (model X.prog X.w) X.A (f (.int i t) (.int j u)) Q E s) :
    OpR X f (rI0 fun i j => .int (g i j)) := by
  intro pins s σ H x y v u Q I rx ry h
  obtain ⟨i, j, rfl, rfl, q⟩ := h
  obtain ⟨t, rfl⟩ := rx
  obtain ⟨t', rfl⟩ := ry
  exact rule i j t t' s _ _ ⟨.int (g i j), H, I.tok _, ⟨_, rfl⟩, q⟩
theorem opB0 {f : Value → Value → Sem Value} {g : Int → Int → Bool}
    (rule : ∀ (i j : Int) (t u : Tok) (s : Shared) (Q : Value → Shared → Prop) (E : Value → Shared → Prop), Q (.bool (g i j)) s → wpAny (model X.prog X.w) X.A (f (.int i t) (.int j u)) Q E s) :
    OpR X f (rI0 fun i j => .bl (g i j)) := by
  intro pins s σ H x y v u Q I rx ry h
  obtain ⟨i, j, rfl, rfl, q⟩ := h
  obtain ⟨t, rfl⟩ := rx
  obtain ⟨t', rfl⟩ := ry
  exact rule i j t t' s _ _ ⟨.bl (g i j), H, I, rfl, q⟩

def CPow (i j : Int) : Prop := 0 ≤ j ∧ j ≤ 1000000 ∧ i.natAbs < 2 ^ 64
def CMul (i j : Int) : Prop := (-(2 ^ 64) < i ∧ i < 2 ^ 64) ∨ (-(2 ^ 64) < j ∧ j < 2 ^ 64)
theorem CMul.ok {i j : Int} (h : CMul i j) : IntMulOk i j := by
  rcases h with ⟨h1, h2⟩ | ⟨h1, h2⟩
  · exact .of_left (intBits_le_64 h1 h2)
  · exact .of_right (intBits_le_64 h1 h2)
theorem op_add : OpR X (binaryOp .Add) (rI0 fun i j => .int (i + j)) := opI0 fun _ _ _ _ _ _ _ q => add_int q
theorem op_sub : OpR X (binaryOp .Sub) (rI0 fun i j => .int (i - j)) := opI0 fun _ _ _ _ _ _ _ q => sub_int q
theorem op_mod : OpR X (binaryOp .Mod) (rI (fun _ j => 0 < j) fun i j => .int (i % j)) := opI fun i j _ _ _ _ _ hc q => by
  have h1 : (0 : Int) < j := hc
  exact mod_int' (by omega) (by rw [Int.fmod_eq_emod_of_nonneg i (by omega)]; exact q)
theorem op_pow : OpR X (binaryOp .Pow) (rI CPow fun i j => .int (i ^ j.toNat)) := opI fun _ _ _ _ _ _ _ hc q => pow_int_small hc.1 hc.2.1 hc.2.2 q
theorem unI {f : Value → Sem Value} {g : Int → Int}
    (rule : ∀ (i : Int) (t : Tok) (s : Shared) (Q : Value → Shared → Prop) (E : Value → Shared → Prop), Q (.int (g i) s.toks) { s with toks := s.toks + 1 } → wpAny (model X.prog X.w) X.A (f (.int i t)) Q E s) :
    UnR X f (rU fun i => .int (g i)) := by
  intro pins s σ H x v Q I rx h
  obtain ⟨i, rfl, q⟩ := h
  obtain ⟨t, rfl⟩ := rx
  exact rule i t s _ _ ⟨.int (g i), H, I.tok _, ⟨_, rfl⟩, q⟩
theorem un_neg : UnR X (unaryOp .USub) (rU fun i => .int (-i)) := unI fun _ _ _ _ _ q => neg_int q
end

def scal : V → V → Bool
  | .non, .non => true | .non, .int _ => true | .int _, .non => true | .non, .bl _ => true | .bl _, .non => true | .non, .str _ => true | .str _, .non => true
  | .int _, .int _ => true | .bl _, .bl _ => true | .str _, .str _ => true | .byt _, .byt _ => true
  | .int _, .str _ => true | .str _, .int _ => true | .bl _, .str _ => true | .str _, .bl _ => true
  | _, _ => false
def rEq : R2 := fun x y H Q => scal x y = true ∧ Q (.bl (decide (x = y))) H
def rNe : R2 := fun x y H Q => scal x y = true ∧ Q (.bl (!decide (x = y))) H

theorem dec_int {i j : Int} : decide (V.int i = V.int j) = (i == j) := by
  rw [Bool.eq_iff_iff]
  simp
theorem dec_bl {i j : Bool} : decide (V.bl i = V.bl j) = (i == j) := by
  rw [Bool.eq_iff_iff]
  simp
theorem dec_str {i j : Str} : decide (V.str i = V.str j) = (i == j) := by
  rw [Bool.eq_iff_iff]
  simp
theorem dec_byt {i j : Array UInt8} : decide (V.byt i = V.byt j) = (i.toList == j.toList) := by
  rw [Bool.eq_iff_iff]
  cases i
  cases j
  simp

section
variable {X : Cx} {a b c : Expr} {ta tb tc : TE} {pos : Pos}
theorem fin_bl {pins : List (Addr × Obj)} {σ : St} {H : Hp} {s : Shared} {Q : VK} {k k' : Bool} (I : Inv X pins σ H s) (q : Q (.bl k) H) (e : k = k') : EP X pins σ Q (.bool k') s := by
  subst e
  exact ⟨.bl k, H, I, rfl, q⟩
theorem op_eq : OpR X (compareOp .Eq) rEq := by
  intro pins s σ H x y v u Q I rx ry h
  obtain ⟨hs, q⟩ := h
  cases x with
  | non =>
    cases rx
    cases y with
    | non => cases ry; exact PySem.EqNone.eq_none_none (fin_bl I q (by simp))
    | bl j => cases ry; exact PySem.EqNone.eq_none_bool (fin_bl I q (by simp))
    | int j => obtain ⟨t', rfl⟩ := ry; exact PySem.EqNone.eq_none_int (fin_bl I q (by simp))
    | str j => obtain ⟨t', rfl⟩ := ry; exact PySem.EqNone.eq_none_str (fin_bl I q (by simp))
    | _ => exact absurd (show false = true from hs) Bool.false_ne_true
  | bl i =>
    cases rx
    cases y with
    | non => cases ry; exact PySem.EqNone.eq_bool_none (fin_bl I q (by simp))
    | bl j => cases ry; exact eq_bool (fin_bl I q dec_bl)
    | str j => obtain ⟨t', rfl⟩ := ry; exact PySem.EqMixed.eq_bool_str (fin_bl I q (by simp))
    | _ => exact absurd (show false = true from hs) Bool.false_ne_true
  | int i =>
    obtain ⟨t, rfl⟩ := rx
    cases y with
    | non => cases ry; exact PySem.EqNone.eq_int_none (fin_bl I q (by simp))
    | int j => obtain ⟨t', rfl⟩ := ry; exact eq_int (fin_bl I q dec_int)
    | str j => obtain ⟨t', rfl⟩ := ry; exact PySem.EqMixed.eq_int_str (fin_bl I q (by simp))
    | _ => exact absurd (show false = true from hs) Bool.false_ne_true
  | str i =>
    obtain ⟨t, rfl⟩ := rx
    cases y with
    | non => cases ry; exact PySem.EqNone.eq_str_none (fin_bl I q (by simp))
    | bl j => cases ry; exact PySem.EqMixed.eq_str_bool (fin_bl I q (by simp))
    | int j => obtain ⟨t', rfl⟩ := ry; exact PySem.EqMixed.eq_str_int (fin_bl I q (by simp))
    | str j => obtain ⟨t', rfl⟩ := ry; exact eq_str (fin_bl I q dec_str)
    | _ => exact absurd (show false = true from hs) Bool.false_ne_true
  | byt i =>
    obtain ⟨t, rfl⟩ := rx
    cases y with
    | byt j => obtain ⟨t', rfl⟩ := ry; exact PySem.W.eq_bytes (fin_bl I q dec_byt)
    | _ => exact absurd (show false = true from hs) Bool.false_ne_true
  | _ => cases y <;> exact absurd (show false = true from hs) Bool.false_ne_true
theorem op_ne : OpR X (compareOp .NotEq) rNe := by
  intro pins s σ H x y v u Q I rx ry h
  obtain ⟨hs, q⟩ := h
  cases x with
  | non =>
    cases rx
    cases y with
    | non => cases ry; exact PySem.EqNone.ne_none_none (fin_bl I q (by simp))
    | bl j => cases ry; exact PySem.EqNone.ne_none_bool (fin_bl I q (by simp))
    | int j => obtain ⟨t', rfl⟩ := ry; exact PySem.EqNone.ne_none_int (fin_bl I q (by simp))
    | str j => obtain ⟨t', rfl⟩ := ry; exact PySem.EqNone.ne_none_str (fin_bl I q (by simp))
    | _ => exact absurd (show false = true from hs) Bool.false_ne_true
  | bl i =>
    cases rx
    cases y with
    | non => cases ry; exact PySem.EqNone.ne_bool_none (fin_bl I q (by simp))
    | bl j => cases ry; exact ne_bool (fin_bl I q (congrArg not dec_bl))
    | str j => obtain ⟨t', rfl⟩ := ry; exact PySem.EqMixed.ne_bool_str (fin_bl I q (by simp))
    | _ => exact absurd (show false = true from hs) Bool.false_ne_true
  | int i =>
    obtain ⟨t, rfl⟩ := rx
    cases y with
    | non => cases ry; exact PySem.EqNone.ne_int_none (fin_bl I q (by simp))
    | int j => obtain ⟨t', rfl⟩ := ry; exact ne_int (fin_bl I q (congrArg not dec_int))
    | str j => obtain ⟨t', rfl⟩ := ry; exact PySem.EqMixed.ne_int_str (fin_bl I q (by simp))
    | _ => exact absurd (show false = true from hs) Bool.false_ne_true
  | str i =>
    obtain ⟨t, rfl⟩ := rx
    cases y with
    | non => cases ry; exact PySem.EqNone.ne_str_none (fin_bl I q (by simp))
    | bl j => cases ry; exact PySem.EqMixed.ne_str_bool (fin_bl I q (by simp))
    | int j => obtain ⟨t', rfl⟩ := ry; exact PySem.EqMixed.ne_str_int (fin_bl I q (by simp))
    | str j => obtain ⟨t', rfl⟩ := ry; exact ne_str (fin_bl I q (congrArg not dec_str))
    | _ => exact absurd (show false = true from hs) Bool.false_ne_true
  | byt i =>
    obtain ⟨t, rfl⟩ := rx
    cases y with
    | byt j => obtain ⟨t', rfl⟩ := ry; exact PySem.W.ne_bytes (fin_bl I q (congrArg not dec_byt))
    | _ => exact absurd (show false = true from hs) Bool.false_ne_true
  | _ => cases y <;> exact absurd (show false = true from hs) Bool.false_ne_true

theorem op_lt : OpR X (compareOp .Lt) (rI0 fun i j => .bl (decide (i < j))) := opB0 fun _ _ _ _ _ _ _ q => lt_int q
theorem op_gt : OpR X (compareOp .Gt) (rI0 fun i j => .bl (decide (j < i))) := opB0 fun _ _ _ _ _ _ _ q => gt_int q
theorem op_in_str : OpR X (compareOp .In) (fun x y H Q => ∃ i j, x = .str i ∧ y = .str j ∧ Q (.bl (!(Builtin.Str.occurrences j i 0 j.length 1).isEmpty)) H) := by
  intro pins s σ H x y v u Q I rx ry h
  obtain ⟨i, j, rfl, rfl, q⟩ := h
  obtain ⟨t, rfl⟩ := rx
  obtain ⟨t', rfl⟩ := ry
  exact in_str (fin_bl I q rfl)

theorem op_isN : OpR X (compareOp .Is) (fun x y H Q => y = .non ∧ Q (.bl (decide (x = .non))) H) := by
  intro pins s σ H x y v u Q I rx ry h
  obtain ⟨rfl, q⟩ := h
  cases ry
  refine is_none_gen (fin_bl I q ?_)
  cases x <;> first
    | (cases rx; rfl)
    | (obtain ⟨t, rfl⟩ := rx; rfl)
theorem op_notN : OpR X (compareOp .IsNot) (fun x y H Q => y = .non ∧ Q (.bl (!decide (x = .non))) H) := by
  intro pins s σ H x y v u Q I rx ry h
  obtain ⟨rfl, q⟩ := h
  cases ry
  refine isnot_none_gen (fin_bl I q ?_)
  cases x <;> first
    | (cases rx; rfl)
    | (obtain ⟨t, rfl⟩ := rx; rfl)

theorem op_notin_str : OpR X (compareOp .NotIn) (fun x y H Q => ∃ i j, x = .str i ∧ y = .str j ∧ Q (.bl (!(!(Builtin.Str.occurrences j i 0 j.length 1).isEmpty))) H) := by
  intro pins s σ H x y v u Q I rx ry h
  obtain ⟨i, j, rfl, rfl, q⟩ := h
  obtain ⟨t, rfl⟩ := rx
  obtain ⟨t', rfl⟩ := ry
  exact notIn_str (fin_bl I q rfl)
theorem OpR.or {f : Value → Value → Sem Value} {r r' : R2} (h : OpR X f r) (h' : OpR X f r') : OpR X f (fun x y H Q => r x y H Q ∨ r' x y H Q) := by
  intro pins s σ H x y v u Q I rx ry q
  rcases q with q | q
  · exact h pins s σ H x y v u Q I rx ry q
  · exact h' pins s σ H x y v u Q I rx ry q

theorem nomark (b : Expr) {op : CmpOp} (h : op ≠ .In := by decide) (h2 : op ≠ .NotIn := by decide) : behindInMarks op b = false := by
  have e1 : (op == CmpOp.In) = false := by cases op <;> first | rfl | exact absurd rfl h
  have e2 : (op == CmpOp.NotIn) = false := by cases op <;> first | rfl | exact absurd rfl h2
  cases b <;> simp [behindInMarks, e1, e2]
theorem pe_cmpR {op : CmpOp} {r : R2} (ho : OpR X (compareOp op) r) (ha : PE X a ta) (hb : PE X b tb) (hm : behindInMarks op b = false) : PE X (.Compare a [op] [b] pos) (tOp r ta tb) := by
  intro pins s σ H Q I h
  exact wpAny_Compare1 (binT ha hb I h fun v u s2 x y H2 I2 rx ry q => ho pins s2 σ H2 x y v u Q I2 rx ry q) hm
def tTest (t : TE) : TT := fun σ H Q => t σ H fun x H' => ∃ k, x = .bl k ∧ Q k H'
theorem pt_cmpR {op : CmpOp} {r : R2} (ho : OpR X (compareOp op) r) (ha : PE X a ta) (hb : PE X b tb) (hm : behindInMarks op b = false) : PT X (.Compare a [op] [b] pos) (tTest (tOp r ta tb)) := by
  intro pins s σ H Q I h
  refine wpAny_isTrue_Compare1 (thn (ha pins s σ H _ I h) fun v s1 ⟨x, H1, I1, r1, q1⟩ => thn (hb pins s1 σ H1 _ I1 q1) fun u s2 ⟨y, H2, I2, r2, q2⟩ =>
    thn (ho pins s2 σ H2 x y v u _ I2 r1 r2 q2) fun c s3 ⟨z, H3, I3, r3, k, e, q3⟩ => ?_) hm
  subst e
  cases r3
  exact wpAny_truthy_bool ⟨H3, I3, q3⟩
def tChain (r r' : R2) (ta tb tc : TE) : TE := fun σ H Q => ta σ H fun x H1 => tb σ H1 fun y H2 => r x y H2 fun z H3 => ∃ k, z = .bl k ∧
  (if k = true then tc σ H3 fun w' H4 => r' y w' H4 Q else Q (.bl false) H3)
theorem line63 : (sizeLine : Nat) < 2 ^ 63 := by rw [sizeLine_eq]; decide
theorem op_add_str : OpR X (binaryOp .Add) (fun x y H Q => ∃ i j, x = .str i ∧ y = .str j ∧ i.length + j.length ≤ sizeLine ∧ Q (.str (i ++ j)) H) := by
  intro pins s σ H x y v u Q I rx ry h
  obtain ⟨i, j, rfl, rfl, hz, q⟩ := h
  obtain ⟨t, rfl⟩ := rx
  obtain ⟨t', rfl⟩ := ry
  exact add_str (fun t' tk => ⟨.str (i ++ j), H, I.tok _, ⟨_, rfl⟩, q⟩) hz
theorem vals1 {x : V} {us : List Value} (r : Vals [x] us) : ∃ u, us = [u] ∧ RelV x u := by
  cases r with
  | cons r1 r2 => cases r2; exact ⟨_, rfl, r1⟩
theorem vals2 {x y : V} {us : List Value} (r : Vals [x, y] us) : ∃ u w', us = [u, w'] ∧ RelV x u ∧ RelV y w' := by
  cases r with
  | cons r1 r2 =>
    cases r2 with
    | cons r3 r4 => cases r4; exact ⟨_, _, rfl, r1, r3⟩
theorem call_abs : CallR X (.builtin "abs") (fun xs H Q => ∃ i, xs = [.int i] ∧ Q (.int (if i < 0 then -i else i)) H) := by
  intro pins s σ H xs us Q I r h
  obtain ⟨i, rfl, q⟩ := h
  obtain ⟨u, rfl, t, rfl⟩ := vals1 r
  exact call_abs_int fun u tk => ⟨.int (if i < 0 then -i else i), H, I.tok _, ⟨_, rfl⟩, q⟩
theorem call_max2 (hc : X.calm = true) : CallR X (.builtin "max") (fun xs H Q => ∃ i j, xs = [.int i, .int j] ∧ Q (.int (if j > i then j else i)) H) := by
  intro pins s σ H xs us Q I r h
  obtain ⟨i, j, rfl, q⟩ := h
  obtain ⟨u, w', rfl, ⟨t, rfl⟩, ⟨t', rfl⟩⟩ := vals2 r
  refine max_two_ints (I.ok.hd hc) fun h' tk k => ⟨_, H, I.kept k, ?_, q⟩
  by_cases hj : j > i
  · rw [if_pos hj, if_pos hj]; exact ⟨_, rfl⟩
  · rw [if_neg hj, if_neg hj]; exact ⟨_, rfl⟩
theorem call_min2 (hc : X.calm = true) : CallR X (.builtin "min") (fun xs H Q => ∃ i j, xs = [.int i, .int j] ∧ Q (.int (if j < i then j else i)) H) := by
  intro pins s σ H xs us Q I r h
  obtain ⟨i, j, rfl, q⟩ := h
  obtain ⟨u, w', rfl, ⟨t, rfl⟩, ⟨t', rfl⟩⟩ := vals2 r
  refine min_two_ints (I.ok.hd hc) fun h' tk k => ⟨_, H, I.kept k, ?_, q⟩
  by_cases hj : j < i
  · rw [if_pos hj, if_pos hj]; exact ⟨_, rfl⟩
  · rw [if_neg hj, if_neg hj]; exact ⟨_, rfl⟩
end
end L2

namespace L2
open PySem PySem.Spec PyProof.Rows

structure ObjM (h : Heap) (x dx C : Addr) (mA : Str → Option Value) : Prop where
  obj : h.get? x = some (PySem.W.instObj C dx)
  ns : h.Ns1 dx mA
  ne : dx ≠ x

theorem lookIn_ns {h : Heap} {dx : Addr} {mA : Str → Option Value} (n : h.Ns1 dx mA) : ∃ od, h.get? dx = some od ∧ ∀ name, PySem.W.lookIn name od = some (mA name) := by
  obtain ⟨o, es, ep, ho, hd, hk, _, hm⟩ := n
  refine ⟨o, ho, fun name => ?_⟩
  have e := hm name
  unfold nsFind findBy at e
  rw [← Array.find?_toList] at e
  unfold PySem.W.lookIn
  rw [hd]
  dsimp only
  split
  · rename_i y q
    rw [q] at e
    exact congrArg some e
  · rename_i q
    rw [q] at e
    have a : es.toList.any (·.refKey) = false := by
      rw [List.any_eq_false]
      intro y hy
      obtain ⟨z, t, hkey⟩ := hk y (Array.mem_toList_iff.mp hy)
      simp [DictEntry.refKey, hkey]
    have a' : ¬ es.toList.any (·.refKey) = true := by rw [a]; exact Bool.false_ne_true
    rw [if_neg a']
    exact congrArg some e

theorem ObjM.look {h : Heap} {x dx C : Addr} {mA : Str → Option Value} (I : ObjM h x dx C mA) : ∃ od, PySem.W.InstAt h x (PySem.W.instObj C dx) C (some od) ∧ ∀ name, PySem.W.lookIn name od = some (mA name) :=
  let ⟨od, ho, hl⟩ := lookIn_ns I.ns
  ⟨od, ⟨I.obj, rfl, rfl, ho⟩, hl⟩

section
variable {prog : Program} {w : World} {A : Around} {E : Value → Shared → Prop} {s : Shared} {K : PySem.W.Frag} {x dx C f : Addr} {mA : Str → Option Value} {name : Str} {v : Value}

end

def putF (f : Str) (v : V) : List (Str × V) → List (Str × V)
  | [] => [(f, v)]
  | (g, x) :: r => if g = f then (g, v) :: r else (g, x) :: putF f v r
theorem RelO.some_of {v : V} {o : Option Value} (r : RelO (some v) o) : ∃ u, o = some u ∧ RelV v u := by
  cases o with
  | none => exact (show False from r).elim
  | some u => exact ⟨u, rfl, r⟩
theorem RelO.none_of {o : Option Value} (r : RelO none o) : o = none := by
  cases o with
  | none => rfl
  | some u => exact (show False from r).elim
section
variable {P : Program} {w : World} {H H' : Hp} {h h' : Heap} {a C dx : Addr} {fs fs' : List (Str × V)}
theorem ins_get (hok : HOk P w H h) (e : H a = some (.ins C dx fs)) : ∃ mA, ObjM h a dx C mA ∧ (∀ f, RelO (fs.lookup f) (mA f)) ∧ PySem.Within mA (fs.map (·.1)) ∧ fs.length ≤ 1000 ∧ H dx = some (.own a) := by
  obtain ⟨d, z, ne, ob, mA, n, r, q⟩ := (show ObjOk P w H h a (.ins C dx fs) from hok a _ e)
  exact ⟨mA, ⟨ob, n, ne⟩, r, q, z, d⟩
end

structure Cls (K : PySem.W.Frag) (C : Addr) : Prop where
  pg : PySem.W.plainGet K C Str.empty = true
  hd : PySem.W.hasDictIn K C = true
  po : PySem.W.plainOver K C = true
  sa : PySem.W.findIn K (.ref C) "__setattr__" = some (some (.builtin "object.__setattr__"))
theorem Cls.get {K : PySem.W.Frag} {C : Addr} (c : Cls K C) (f : Str) : PySem.W.plainGet K C f = true := c.pg
def NoAttr (K : PySem.W.Frag) (C : Addr) (f : Str) : Prop := PySem.W.findIn K (.ref C) f = some none
section
variable {X : Cx} {pins : List (Addr × Obj)} {σ : St} {H : Hp} {s : Shared} {a C dx : Addr} {fs : List (Str × V)} {f : Str} {v : V} {A : Around} {E : Value → Shared → Prop}

theorem Inv.made (I : Inv X pins σ H s) : Inv X pins σ (upd (upd H s.heap.objs.size (.own (s.heap.objs.size + 1))) (s.heap.objs.size + 1) (.ins C s.heap.objs.size []))
    { s with heap := (s.heap.push PySem.W.emptyDict).push (PySem.W.instObj C s.heap.objs.size) } := by
  have e1 : (s.heap.push PySem.W.emptyDict).get? s.heap.objs.size = some PySem.W.emptyDict := Heap.get?_push_size s.heap rfl
  have e2 : ((s.heap.push PySem.W.emptyDict).push (PySem.W.instObj C s.heap.objs.size)).get? (s.heap.objs.size + 1) = some (PySem.W.instObj C s.heap.objs.size) := by
    have := Heap.get?_push_size (s.heap.push PySem.W.emptyDict) (o := PySem.W.instObj C s.heap.objs.size) rfl
    rwa [Heap.size_push] at this
  have e3 : (s.heap.push PySem.W.emptyDict).Ns s.heap.objs.size (fun _ => none) := ⟨PySem.W.emptyDict, #[], _, e1, rfl, (fun e he => absurd he (by simp)), fun _ => rfl⟩
  have I1 := I.laid (a := s.heap.objs.size) (o := .own (s.heap.objs.size + 1)) (h' := s.heap.push PySem.W.emptyDict) (t' := s.toks) (fun b u q => Heap.get?_push_of_some _ q) (Nat.le_refl _) ⟨_, e1⟩
  refine I1.laid (a := s.heap.objs.size + 1) (o := .ins C s.heap.objs.size []) (t' := s.toks) (fun b u q => Heap.get?_push_of_some _ q) (Nat.le_of_eq (Heap.size_push _ _)) ?_
  have ne : s.heap.objs.size ≠ s.heap.objs.size + 1 := Nat.ne_of_lt (Nat.lt_succ_self _)
  refine ⟨by rw [upd_ne ne, upd_same], Nat.zero_le _, ne, e2, fun _ => none, (Heap.Ns1.of_empty e3).at fun o q => Heap.get?_push_of_some _ q, fun _ => True.intro, fun y hy => absurd rfl hy⟩

end

section
variable {X : Cx} {o e value : Expr} {f : Str} {pos pos' tpos : Pos} {ta tv : TE}
end

section
variable {X : Cx} {pins : List (Addr × Obj)} {σ : St} {H : Hp} {s : Shared} {A : Around} {E : Value → Shared → Prop} {Q : Value → Shared → Prop} {c : Value} {b : Bool}
inductive TyOf (K : PySem.W.Frag) (H : Hp) : V → Value → Prop where
  | non : TyOf K H .non (.type "NoneType")
  | bl (x : Bool) : TyOf K H (.bl x) (.type "bool")
  | int (i : Int) : TyOf K H (.int i) (.type "int")
  | str (x : Str) : TyOf K H (.str x) (.type "str")
  | flt (x : UInt64) : TyOf K H (.flt x) (.type "float")
  | lst {a : Addr} {xs : List V} (e : H a = some (.lst xs)) : TyOf K H (.ref a) (.type "list")
  | frz {a : Addr} {o : Obj} {xs : List V} (e : H a = some (.frz o (.lst xs))) : TyOf K H (.ref a) (.type "list")
  | tup {a : Addr} {xs : List V} (e : H a = some (.tup xs)) : TyOf K H (.ref a) (.type "tuple")
  | dK {a : Addr} {kvs : List (Key × V)} (e : H a = some (.dK kvs)) : TyOf K H (.ref a) (.type "dict")
  | dT {a : Addr} {kvs : List (List Key × V)} (e : H a = some (.dT kvs)) : TyOf K H (.ref a) (.type "dict")
  | ins {a C dx : Addr} {fs : List (Str × V)} (e : H a = some (.ins C dx fs)) (cl : Cls K C) (ha : PySem.W.findIn K (.ref C) "__class__" = some (some (.builtin "object.__class__")))
      (hn : PySem.W.specialIn K (.builtin "object.__class__") "__get__" = some (some (.builtin "getset_descriptor.__get__"))) (htk : PySem.W.takesIn K (.builtin "object.__class__") = some true)
      (hm : PySem.W.mroIn K C (.type "object") = some true) : TyOf K H (.ref a) (.ref C)
theorem isinst_ok {x : V} {u t : Value} (I : Inv X pins σ H s) (rx : RelV x u) (ty : TyOf X.K H x t) (e : PySem.W.kitOne X.K t c = some b) (h : ∀ tk, Q (.bool b) { s with toks := tk }) :
    wpAny (model X.prog X.w) A (call (.builtin "isinstance") [u, c]) Q E s := by
  cases ty with
  | non => cases (show u = Value.none from rx); exact PySem.W.kia_one PySem.W.kitx_none I.kIn True.intro e (fun z => nomatch z) h
  | bl y => cases (show u = Value.bool y from rx); exact PySem.W.kia_one PySem.W.kitx_bool I.kIn True.intro e (fun z => nomatch z) h
  | int i => obtain ⟨t, q⟩ := (show ∃ t, u = Value.int i t from rx); cases q; exact PySem.W.kia_one PySem.W.kitx_int I.kIn True.intro e (fun z => nomatch z) h
  | str y => obtain ⟨t, q⟩ := (show ∃ t, u = Value.str y t from rx); cases q; exact PySem.W.kia_one PySem.W.kitx_str I.kIn True.intro e (fun z => nomatch z) h
  | flt y => obtain ⟨t, q⟩ := (show ∃ t, u = Value.float y t from rx); cases q; exact PySem.W.kia_one PySem.W.kitx_float I.kIn True.intro e (fun z => nomatch z) h
  | @lst a xs ea =>
    cases (show u = Value.ref a from rx)
    obtain ⟨_, _, n, _, h1⟩ := (show ObjOk X.prog X.w H s.heap a (.lst xs) from I.hok a _ ea)
    exact PySem.W.kia_one PySem.W.kitx_list I.kIn ⟨_, h1, rfl⟩ e (fun z => nomatch z) h
  | @frz a ob xs ea =>
    cases (show u = Value.ref a from rx)
    obtain ⟨_, _, _, n, _, h1⟩ := (show ObjOk X.prog X.w H s.heap a (.frz ob (.lst xs)) from I.hok a _ ea)
    exact PySem.W.kia_one PySem.W.kitx_list I.kIn ⟨_, h1, rfl⟩ e (fun z => nomatch z) h
  | @tup a xs ea =>
    cases (show u = Value.ref a from rx)
    obtain ⟨_, _, _, p⟩ := (show ObjOk X.prog X.w H s.heap a (.tup xs) from I.hok a _ ea)
    obtain ⟨o, h1, h2, _⟩ := p
    exact PySem.W.kia_one PySem.W.kitx_tuple I.kIn ⟨o, h1, h2⟩ e (fun z => nomatch z) h
  | @dK a kvs ea =>
    cases (show u = Value.ref a from rx)
    obtain ⟨_, _, vs, _, p⟩ := (show ObjOk X.prog X.w H s.heap a (.dK kvs) from I.hok a _ ea)
    obtain ⟨o, es, ep, h1, h2, _⟩ := p
    exact PySem.W.kia_one PySem.W.kitx_dict I.kIn ⟨o, h1, h2.1⟩ e (fun z => nomatch z) h
  | @dT a kvs ea =>
    cases (show u = Value.ref a from rx)
    obtain ⟨_, _, xs, _, o, es, ep, h1, h2, _⟩ := (show ObjOk X.prog X.w H s.heap a (.dT kvs) from I.hok a _ ea)
    exact PySem.W.kia_one PySem.W.kitx_dict I.kIn ⟨o, h1, h2.1⟩ e (fun z => nomatch z) h
  | @ins a C dx fs ea cl ha hn htk hm =>
    cases (show u = Value.ref a from rx)
    obtain ⟨mA, O, _⟩ := ins_get I.hok ea
    obtain ⟨od, J, _⟩ := O.look
    exact PySem.W.kia_one (PySem.W.kitx_own (cl.get _) cl.hd ha hn htk hm) I.kIn J e (fun z => nomatch z) h
end
end L2

namespace L2
open PySem PySem.Spec PyProof.Rows

structure Room (k : Nat) (A : Around) : Prop where
  hd : A.handled = none
  dp : A.depth + 3 * k + 5 < recursionLimit
  un : A.units + 16 * k + 200 < cLine
theorem Room.mono {j k : Nat} {A : Around} (r : Room k A) (h : j ≤ k) : Room j A := ⟨r.hd, by have := r.dp; omega, by have := r.un; omega⟩
theorem Room.deeper {k : Nat} {A : Around} (r : Room (k + 1) A) (env : Env) : Room k (A.deeper env) :=
  ⟨r.hd, by have := r.dp; show A.depth + 1 + 3 * k + 5 < _; omega, by have := r.un; show A.units + 3 + 16 * k + 200 < _; omega⟩
theorem make_depth {A : Around} {C : Addr} {us : List Value} {kw : List (Str × Value)} : (A.under (.builtin "type.__call__" ⟨.ref C :: us, kw⟩)).depth = A.depth + 1 := by
  first | rfl | simp [Around.under, Code.weight, Code.isCreation, Code.isGuard, Code.isCaller, Code.frames, Code.isFrame, guardIds]
theorem make_units {A : Around} {C : Addr} {us : List Value} {kw : List (Str × Value)} : (A.under (.builtin "type.__call__" ⟨.ref C :: us, kw⟩)).units = A.units + 1 := by
  first | rfl | simp [Around.under, Code.cUnits, Code.frames, Code.isFrame]
theorem Room.make {k : Nat} {A : Around} (r : Room (k + 1) A) (C : Addr) (us : List Value) (kw : List (Str × Value)) : Room k (A.under (.builtin "type.__call__" ⟨.ref C :: us, kw⟩)) :=
  ⟨r.hd, by have := r.dp; rw [make_depth]; omega, by have := r.un; rw [make_units]; omega⟩
theorem Room.depth {k : Nat} {A : Around} (r : Room k A) : A.depth < recursionLimit := by have := r.dp; omega
theorem Room.units {k : Nat} {A : Around} (r : Room k A) : A.units + 64 < cLine := by have := r.un; omega
theorem Room.units0 {k : Nat} {A : Around} (r : Room k A) : A.units < cLine := by have := r.un; omega

def tNil : TA := fun _ H Q => Q [] H
def tCons (ta : TE) (tr : TA) : TA := fun σ H Q => ta σ H fun x H1 => tr σ H1 fun xs H2 => Q (x :: xs) H2
section
variable {X : Cx} {e : Expr} {es : List Expr} {te : TE} {t : TA} {pos : Pos}
theorem pa_nil : PA X [] tNil := fun _ _ _ _ H Q I h => Calls.spliced_nil ⟨[], H, I, .nil, h⟩
theorem pa_cons (ha : PE X e te) (hr : PA X es t) (hs : starEach (e :: es) X.env = (false, eval e X.env) :: starEach es X.env := by rfl) : PA X (e :: es) (tCons te t) := by
  intro pos pins s σ H Q I h
  rw [hs]
  show wpAny _ _ (spliced ((false, eval e X.env) :: backTo pos (starEach es X.env))) _ _ s
  refine Calls.spliced_cons (thn (ha pins s σ H _ I h) fun u s1 ⟨x, H1, I1, r1, q1⟩ => ?_)
  exact thn (hr pos pins s1 σ H1 _ I1 q1) fun us s2 ⟨xs, H2, I2, r2, q2⟩ => ⟨x :: xs, H2, I2, .cons r1 r2, q2⟩

end

abbrev Sp := List V → Hp → VK → XK → Prop
abbrev CXT := List Env → Hp → Shared → XK → Value → Shared → Prop

structure Env0 (P : Program) (w : World) (K : PySem.W.Frag) (mg : Str → Option Value) (base : Heap) (A : Around) (outer : List Env) (s : Shared) (H : Hp) : Prop where
  frames : A.frames = some outer
  mod : Mod K mg base
  bs : ∀ b o, base.get? b = some o → s.heap.get? b = some o ∧ H b = none
  bsz : base.objs.size ≤ s.heap.objs.size
  funs : s.heap.FunFrames base outer
  frf : ∀ b ∈ frs outer, H b = none
  hok : HOk P w H s.heap
  bare : AllBare s.gens
def CE (outer : List Env) (P : Program) (w : World) (H : Hp) (s : Shared) (Q : VK) (u : Value) (s' : Shared) : Prop :=
  ∃ v H', s'.os = s.os ∧ AllBare s'.gens ∧ Un (frs outer) [] H H' s.heap s'.heap ∧ HOk P w H' s'.heap ∧ RelV v u ∧ Q v H'
def CR (CX : CXT) (outer : List Env) (P : Program) (w : World) (H : Hp) (s : Shared) (Q : VK) (E : XK) (r : Result) (s' : Shared) : Prop :=
  match r with
  | .ok (.ret u) => CE outer P w H s Q u s'
  | .ok _ => False
  | .error e => CX outer H s E e s'
structure FnOk (P : Program) (w : World) (K : PySem.W.Frag) (mg : Str → Option Value) (base : Heap) (CX : CXT) (k : Nat) (f : Addr) (fd : FuncData) (ps : List Str) (sp : Sp) : Prop where
  len : ∀ vs H Q E, sp vs H Q E → vs.length = ps.length
  run : ∀ (A : Around) (outer : List Env) (s : Shared) (H : Hp) (args : Args) (us : List Value) (vs : List V) (Q : VK) (E : XK), Room k A → Env0 P w K mg base A outer s H → BindsTo s fd args (ps.zip us) → Vals vs us → sp vs H Q E →
    codeAny (model P w) A (.call (.ref f) args) (CR CX outer P w H s Q E) s
theorem FnOk.mono {P : Program} {w : World} {K : PySem.W.Frag} {mg : Str → Option Value} {base : Heap} {CX : CXT} {j k : Nat} {f : Addr} {fd : FuncData} {ps : List Str} {sp : Sp} (F : FnOk P w K mg base CX j f fd ps sp) (h : j ≤ k) :
    FnOk P w K mg base CX k f fd ps sp := ⟨F.len, fun A outer s H args us vs Q E hr => F.run A outer s H args us vs Q E (hr.mono h)⟩
theorem FnOk.imp {P : Program} {w : World} {K : PySem.W.Frag} {mg : Str → Option Value} {base : Heap} {CX : CXT} {k : Nat} {f : Addr} {fd : FuncData} {ps : List Str} {sp sp' : Sp} (F : FnOk P w K mg base CX k f fd ps sp)
    (h : ∀ vs H Q E, sp' vs H Q E → sp vs H Q E) : FnOk P w K mg base CX k f fd ps sp' :=
  ⟨fun vs H Q E q => F.len vs H Q E (h _ _ _ _ q), fun A outer s H args us vs Q E hr he hb hv hs => F.run A outer s H args us vs Q E hr he hb hv (h _ _ _ _ hs)⟩

theorem Env0.make {P : Program} {w : World} {K : PySem.W.Frag} {mg : Str → Option Value} {base : Heap} {A : Around} {outer : List Env} {s : Shared} {H : Hp} (e : Env0 P w K mg base A outer s H) (C : Addr) (us : List Value) (kw : List (Str × Value)) :
    Env0 P w K mg base (A.under (.builtin "type.__call__" ⟨.ref C :: us, kw⟩)) outer s H := ⟨by first | exact e.frames | (simpa [Around.under, Code.envs, Code.isFrame, pushEnvs] using e.frames), e.mod, e.bs, e.bsz, e.funs, e.frf, e.hok, e.bare⟩
section
variable {X : Cx} {pins : List (Addr × Obj)} {σ : St} {H : Hp} {s s' : Shared}
theorem Inv.env0 (I : Inv X pins σ H s) : Env0 X.prog X.w X.K X.mg X.base X.A X.stack s H :=
  ⟨I.ok.frames, I.ok.mod, I.bs, Nat.le_trans I.ok.bsz I.sz, I.stack, I.stkFree, I.hok, I.bare⟩
theorem Inv.after {Q : VK} {u : Value} (I : Inv X pins σ H s) (h : CE X.stack X.prog X.w H s Q u s') : EP X pins σ Q u s' := by
  obtain ⟨v, H', os, bare, un, hok, r, q⟩ := h
  obtain ⟨hh, g, d, t, os'⟩ := s'
  obtain rfl : os' = s.os := os
  exact ⟨v, H', I.call (h' := hh) (g' := g) (d' := d) (t' := t) (ch := []) un hok bare (fun b z => absurd z (by simp)), r, q⟩
end

def tCall (sp : Sp) (dvs : List V) (E : St → XK) (t : TA) : TE := fun σ H Q => t σ H fun vs H1 => sp (vs ++ dvs) H1 Q (E σ)
def Binds (K : PySem.W.Frag) (fd : FuncData) (ps : List Str) (ds : List Value) : Prop :=
  ∀ (s : Shared) (us : List Value), K.In s.heap → (us ++ ds).length = ps.length → BindsTo s fd ⟨us, []⟩ (ps.zip (us ++ ds))
theorem Binds.all {K : PySem.W.Frag} {fd : FuncData} {ps : List Str} (h : ∀ us : List Value, us.length = ps.length → bindArgs fd ⟨us, []⟩ = pure (ps.zip us)) : Binds K fd ps [] := fun s us _ hl => by
  rw [List.append_nil] at hl ⊢
  exact .of_eq (h us hl)

def Passes (CX : CXT) (X : Cx) (E : St → XK) : Prop := ∀ (pins : List (Addr × Obj)) (σ : St) (H : Hp) (s : Shared) (e : Value) (s' : Shared), Inv X pins σ H s → CX X.stack H s (E σ) e s' → X.xe e s'

section
variable {X : Cx} {CX : CXT} {k : Nat} {f C : Addr} {fd : FuncData} {ps : List Str} {sp : Sp} {dvs : List V} {ds : List Value} {E : St → XK} {x m : Str} {p pos apos : Pos} {e o : Expr} {es : List Expr} {ta : TE} {t : TA}

theorem run_fn {pins : List (Addr × Obj)} {σ : St} {H : Hp} {s : Shared} {Q : VK} {us : List Value} {vs : List V} (F : FnOk X.prog X.w X.K X.mg X.base CX k f fd ps sp) (hr : Room k X.A) (hb : Binds X.K fd ps ds) (hd : Vals dvs ds) (hx : Passes CX X E)
    (I : Inv X pins σ H s) (r : Vals vs us) (h : sp (vs ++ dvs) H Q (E σ)) : wpAny (model X.prog X.w) X.A (call (.ref f) us) (EP X pins σ Q) X.xe s := by
  have r2 : Vals (vs ++ dvs) (us ++ ds) := r.append hd
  have hl : (us ++ ds).length = ps.length := by rw [← r2.length]; exact F.len _ _ _ _ h
  refine wpAny_call (codeAny_mono (F.run X.A X.stack s H ⟨us, []⟩ (us ++ ds) (vs ++ dvs) Q (E σ) hr I.env0 (hb s us I.kIn hl) r2 h) fun r s' hq => ?_)
  cases r with
  | error e => exact hx pins σ H s e s' I hq
  | ok fl =>
    cases fl with
    | ret u => exact I.after hq
    | next => exact False.elim hq
    | brk => exact False.elim hq
    | cont => exact False.elim hq

theorem pe_call (F : FnOk X.prog X.w X.K X.mg X.base CX k f fd ps sp) (hr : Room k X.A) (hg : Gl X x) (hm : X.mg x = some (.ref f)) (hk : PySem.W.keepIn X.K (.ref f) = true) (hb : Binds X.K fd ps ds) (hd : Vals dvs ds) (hx : Passes CX X E)
    (ha : PA X (e :: es) t) (hdb : (x == ("__debug__" : Str)) = false := by decide) (he : starEach (e :: es) X.env = (false, eval e X.env) :: starEach es X.env := by rfl) (hpl : (backTo pos (starEach es X.env)).any (·.1) = false := by rfl) :
    PE X (.Call (.Name x p) (e :: es) [] pos) (tCall sp dvs E t) := by
  intro pins s σ H Q I h
  refine wpAny_Call_Name_kw (ld_glob I hg hm ?_ hdb)
  refine PySem.W.callWith_K (h₀ := X.base) I.ok.mod.kin hk (thn (ha pos pins s σ H _ I h) fun us s1 ⟨vs, H1, I1, r, q⟩ => ⟨I1.kIn, ?_⟩) he hpl
  exact run_fn F hr hb hd hx I1 r q
structure Mk (K : PySem.W.Frag) (C f : Addr) : Prop where
  makes : PySem.W.makesIn K C = true
  init : PySem.W.findIn K (.ref C) "__init__" = some (some (.ref f))
  fn : PySem.W.isFn K (.ref f) = true
  kp : PySem.W.keepIn K (.ref C) = true

end

section
variable {X : Cx} {CX : CXT} {k : Nat} {f C : Addr} {fd : FuncData} {ps ks : List Str} {sp : Sp} {E : St → XK} {x m : Str} {p pos apos kpos : Pos} {e o : Expr} {es : List Expr} {kws : List Keyword} {te ta : TE} {t tk : TA} {nm : Option Str}
variable {g : List Value → List Value → List Value} {gV : List V → List V → List V}
end

structure FnScope (N P : List Str) (sc : Scope) : Prop where
  kind : sc.kind = .function
  co : sc.isCoroutine = false
  gen : sc.isGenerator = false
  nd : N.Nodup
  pre : N.take P.length = P
  par : ∀ x ∈ P, sc.names.lookup x = some .local ∨ sc.names.lookup x = some .cell
  nofree : ∀ y ∈ sc.names, y.2 ≠ .free

theorem bindL_out {kindOf : Str → Option NameKind} {x : Str} : ∀ {binds : List (Str × Value)} {m : Str → Option Value}, (∀ v, (x, v) ∉ binds) → bindL kindOf binds m x = m x
  | [], _, _ => rfl
  | (n, v) :: r, m, h => by
    unfold bindL
    rw [bindL_out fun w hw => h w (List.mem_cons_of_mem _ hw)]
    split
    · have : x ≠ n := by rintro rfl; exact h v List.mem_cons_self
      simp [this]
    · rfl
theorem bindC_out {kindOf : Str → Option NameKind} {x : Str} : ∀ {binds : List (Str × Value)} {m : Str → Option Value}, (∀ v, (x, v) ∉ binds) → bindC kindOf binds m x = m x
  | [], _, _ => rfl
  | (n, v) :: r, m, h => by
    unfold bindC
    rw [bindC_out fun w hw => h w (List.mem_cons_of_mem _ hw)]
    split
    · rfl
    · have : x ≠ n := by rintro rfl; exact h v List.mem_cons_self
      simp [this]
theorem bindL_get {kindOf : Str → Option NameKind} {x : Str} {v : Value} : ∀ {P : List Str} {vs : List Value} {i : Nat} {m : Str → Option Value}, P.Nodup → P[i]? = some x → vs[i]? = some v → kindOf x = some .local →
    bindL kindOf (P.zip vs) m x = some v
  | [], _, _, _, _, h, _, _ => by simp at h
  | _ :: _, [], _, _, _, _, h, _ => by simp at h
  | p :: P, w :: vs, 0, m, nd, h1, h2, hk => by
    simp at h1 h2; subst h1; subst h2
    show bindL kindOf ((p, w) :: P.zip vs) m p = _
    unfold bindL
    rw [bindL_out fun v hv => (List.nodup_cons.mp nd).1 (List.of_mem_zip hv).1, if_pos hk]
    simp
  | p :: P, w :: vs, i + 1, m, nd, h1, h2, hk => by
    show bindL kindOf ((p, w) :: P.zip vs) m x = _
    unfold bindL
    exact bindL_get (i := i) (List.nodup_cons.mp nd).2 (by simpa using h1) (by simpa using h2) hk
theorem bindC_get {kindOf : Str → Option NameKind} {x : Str} {v : Value} : ∀ {P : List Str} {vs : List Value} {i : Nat} {m : Str → Option Value}, P.Nodup → P[i]? = some x → vs[i]? = some v → kindOf x ≠ some .local →
    bindC kindOf (P.zip vs) m x = some v
  | [], _, _, _, _, h, _, _ => by simp at h
  | _ :: _, [], _, _, _, _, h, _ => by simp at h
  | p :: P, w :: vs, 0, m, nd, h1, h2, hk => by
    simp at h1 h2; subst h1; subst h2
    show bindC kindOf ((p, w) :: P.zip vs) m p = _
    unfold bindC
    rw [bindC_out fun v hv => (List.nodup_cons.mp nd).1 (List.of_mem_zip hv).1, if_neg hk]
    simp
  | p :: P, w :: vs, i + 1, m, nd, h1, h2, hk => by
    show bindC kindOf ((p, w) :: P.zip vs) m x = _
    unfold bindC
    exact bindC_get (i := i) (List.nodup_cons.mp nd).2 (by simpa using h1) (by simpa using h2) hk

def start (N : List Str) (vs : List V) : St := vs.map some ++ List.replicate (N.length - vs.length) none

def cxOf (CX : CXT) (P : Program) (w : World) (K : PySem.W.Frag) (mg : Str → Option Value) (base : Heap) (N : List Str) (qual : Str) (scope : Scope) (f : Addr) (cd : Value) (A : Around) (outer : List Env) (s : Shared) (H : Hp) (E : XK) : Cx where
  prog := P
  w := w
  K := K
  mg := mg
  base := base
  A := A.deeper (envOfC qual scope s.heap.objs.size f cd)
  N := N
  s₀ := s
  H₀ := H
  env := envOfC qual scope s.heap.objs.size f cd
  outer := outer
  stack := envOfC qual scope s.heap.objs.size f cd :: outer
  ex := []
  calm := true
  fn := fun _ => true
  pn := []
  xe := fun e s' => wpAny (model P w) (A.deeper (envOfC qual scope s.heap.objs.size f cd)) (leaving (envOfC qual scope s.heap.objs.size f cd) e) (fun _ s'' => CX outer H s E e s'') (fun e' s'' => CX outer H s E e' s'') s'

theorem cell_has {sc : Scope} {n : Nat} {x : Str} (h : sc.names.lookup x = some .cell) : ∃ c, (cellsFrom n sc.names []).lookup x = some c := by
  have q := PySem.W.cellsFrom_some sc.names n [] (.inl h)
  exact Option.isSome_iff_exists.mp q

theorem inv_start {CX : CXT} {P : Program} {w : World} {K : PySem.W.Frag} {mg : Str → Option Value} {base : Heap} {N ps : List Str} {qual : Str} {scope : Scope} {f : Addr} {cd : Value} {A : Around} {outer : List Env} {s s1 : Shared} {H : Hp} {E : XK} {us : List Value} {vs : List V}
    (S : FnScope N ps scope) (hd : A.handled = none) (e0 : Env0 P w K mg base A outer s H) (hl : vs.length = ps.length) (r : Vals vs us)
    (x : InCallC s s.heap.objs.size (bindL (envOfC qual scope s.heap.objs.size f cd).kindOf (ps.zip us) fun _ => none) (cellsFrom (s.heap.objs.size + 1) scope.names []) (bindC (envOfC qual scope s.heap.objs.size f cd).kindOf (ps.zip us) fun _ => none) s1) :
    Inv (cxOf CX P w K mg base N qual scope f cd A outer s H E) [] (start N vs) H s1 := by
  have hpl : ps.length ≤ N.length := by have := congrArg List.length S.pre; rw [List.length_take] at this; omega
  obtain ⟨h1, tk, rfl, hk⟩ := x.done
  have noA : ∀ b : Addr, b ∉ (cxOf CX P w K mg base N qual scope f cd A outer s H E).ex := fun b z => absurd (show b ∈ ([] : List Addr) from z) (by simp)
  refine ⟨⟨e0.mod, S.kind, rfl, rfl, Nat.le_refl _, fun y z c h1 h2 => ?_, fun y hy => ?_, fun y c _ h => ?_, fun _ => hd, Around.frames_deeper e0.frames, .inr ⟨rfl, rfl⟩, fun b z => absurd z (noA b), e0.bs, e0.bsz, fun b _ _ => noA b, fun b z => absurd z (noA b), e0.funs, e0.frf⟩,
    rfl, e0.bare, Un.kept hk, ⟨_, x.toInCall.ns, fun i y v h1 h2 h3 => ?_⟩, fun y c h => ⟨_, x.cell y c h⟩, e0.hok.fresh (Nat.le_refl _), fun y c h => ?_, fun p hp => absurd (show p ∈ ([] : List (Addr × Obj)) from hp) (by simp), e0.hok.kept hk, ?_⟩
  · exact name_of_addr x.apart (PySem.mem_of_lookup h1) (PySem.mem_of_lookup h2)
  · have hy : scope.names.lookup y = some .cell ∨ scope.names.lookup y = some .free := hy
    rcases hy with hy | hy
    · exact cell_has hy
    · exact absurd rfl (S.nofree _ (PySem.mem_of_lookup hy))
  · exact Nat.le_of_lt (x.above y c (PySem.mem_of_lookup h))
  · have hi : i < vs.length := by
      unfold start at h2
      by_cases hi : i < vs.length
      · exact hi
      · rw [List.getElem?_append_right (by simpa using hi)] at h2
        rw [List.getElem?_replicate] at h2
        split at h2 <;> cases h2
    have ha : vs[i]? = some v := by
      unfold start at h2
      rw [List.getElem?_append_left (by simpa using hi), List.getElem?_map] at h2
      cases e : vs[i]? with
      | none => rw [e] at h2; cases h2
      | some a => rw [e] at h2; cases h2; rfl
    obtain ⟨u, hu, rv⟩ := r.get ha
    have hp : ps[i]? = some y := by
      rw [← S.pre, List.getElem?_take_of_lt (by omega)]; exact h1
    have ndP : ps.Nodup := by rw [← S.pre]; exact S.nd.sublist (List.take_sublist _ _)
    refine ⟨u, rv, ?_⟩
    rcases S.par y (List.mem_of_getElem? hp) with k | k
    · exact .inl ⟨k, bindL_get ndP hp hu k⟩
    · obtain ⟨c, e⟩ := cell_has (n := s.heap.objs.size + 1) k
      refine .inr ⟨.inl k, c, e, ?_⟩
      have q := x.cell y c e
      rw [bindC_get ndP hp hu (by show scope.names.lookup y ≠ _; rw [k]; decide)] at q
      exact q
  · exact e0.hok.fresh (Nat.le_of_lt (x.above y c (PySem.mem_of_lookup h)))
  · unfold start
    show _ = N.length
    rw [List.length_append, List.length_map, List.length_replicate]
    omega

theorem fn_of {CX : CXT} {P : Program} {w : World} {K : PySem.W.Frag} {mg : Str → Option Value} {base : Heap} {k : Nat} {f : Addr} {name qual : Str} {params : Arguments} {body : List Stmt} {scope : Scope} {dV kV doc pm cdv ct oc : Value} {an od : Option Addr}
    {osl : Array (Option Value)} {N ps : List Str} {sp : Sp} (lk : K.lookup f = some ⟨oc, od, .func (PySem.W.fnOf name qual params body scope dV kV doc pm an cdv ct), osl⟩) (hcd : PySem.W.codeIn K cdv qual = true) (S : FnScope N ps scope)
    (len : ∀ vs H Q E, sp vs H Q E → vs.length = ps.length)
    (hbody : ∀ (A : Around) (outer : List Env) (s : Shared) (H : Hp) (vs : List V) (Q : VK) (E : XK), Room k (A.deeper (envOfC qual scope s.heap.objs.size f cdv)) → sp vs H Q E →
      ∃ t, PSs (cxOf CX P w K mg base N qual scope f cdv A outer s H E) body t ∧ t { nx := fun _ H' => Q .non H', rt := Q } (start N vs) H) :
    FnOk P w K mg base CX (k + 1) f (PySem.W.fnOf name qual params body scope dV kV doc pm an cdv ct) ps sp := by
  refine ⟨len, fun A outer s H args us vs Q E hr e0 hb r hsp => ?_⟩
  have hl := len _ _ _ _ hsp
  have KX : K.In s.heap := e0.mod.kin.keeps fun b o e => (e0.bs b o e).1
  have lim : s.heap.NoLimit := e0.mod.nolimit.keeps fun b o e => (e0.bs b o e).1
  have hkind : ∀ y ∈ ps.zip us, scope.names.lookup y.1 = some .local ∨ (scope.names.lookup y.1 = some .cell ∧ ((cellsFrom (s.heap.objs.size + 1) scope.names []).lookup y.1).isSome = true) := fun ⟨n, v⟩ hy => by
    rcases S.par n (List.of_mem_zip hy).1 with q | q
    · exact .inl q
    · exact .inr ⟨q, PySem.W.cellsFrom_some _ _ _ (.inl q)⟩
  refine codeAny_call_function hr.depth (KX _ _ lk) rfl S.co S.gen rfl (PySem.W.codeRec_of KX hcd) (hb _ _ _ _ ?_)
  refine wpAny_newFunctionEnv_cells S.kind hkind fun env he s1 x => ?_
  subst he
  refine ⟨lim.keeps x.toInCall.keep, codeAny_func ?_⟩
  obtain ⟨t, ht, hq⟩ := hbody A outer s H vs Q E (hr.deeper _) hsp
  have I : Inv (cxOf CX P w K mg base N qual scope f cdv A outer s H E) [] (start N vs) H s1 := inv_start S hr.hd e0 hl r x
  refine wpAny_mono (ht [] s1 (start N vs) H _ I hq) (fun fl s' hs => ?_) fun e s' hs => hs
  have fin : ∀ {σ' : St} {H' : Hp} {v : V} {u : Value}, Inv (cxOf CX P w K mg base N qual scope f cdv A outer s H E) [] σ' H' s' → RelV v u → Q v H' → CE outer P w H s Q u s' :=
    fun {σ' H' v u} J rv q => ⟨v, H', J.os, J.bare, J.base, J.hok, rv, q⟩
  cases fl with
  | ret u =>
    obtain ⟨v, σ', H', J, rv, q⟩ := hs
    exact fin J rv q
  | next =>
    obtain ⟨σ', H', J, q⟩ := hs
    exact fin (v := V.non) (u := Value.none) J rfl q
  | brk =>
    obtain ⟨_, _, _, q⟩ := hs
    exact False.elim q
  | cont =>
    obtain ⟨_, _, _, q⟩ := hs
    exact False.elim q
end L2

namespace L2
open PySem PySem.Spec PyProof.Rows
section
variable {X : Cx} {x : Str} {p pos : Pos} {e : Expr} {es : List Expr} {t : TA} {id T : String} {r : List V → Hp → VK → Prop}

def tCB (r : List V → Hp → VK → Prop) (t : TA) : TE := fun σ H Q => t σ H fun vs H1 => r vs H1 Q
theorem pe_callB (hc : CallR X (.builtin id) r) (hg : Gl X x) (hm : X.mg x = none) (hv : bootBuiltins x = some (.builtin id)) (ha : PA X (e :: es) t) (hn : x ≠ "__name__" := by decide) (hdb : (x == ("__debug__" : Str)) = false := by decide)
    (he : starEach (e :: es) X.env = (false, eval e X.env) :: starEach es X.env := by rfl) (hpl : (backTo pos (starEach es X.env)).any (·.1) = false := by rfl) : PE X (.Call (.Name x p) (e :: es) [] pos) (tCB r t) := by
  intro pins s σ H Q I h
  refine wpAny_Call_Name_kw (ld_blt I hg hm hv ?_ hn hdb)
  exact PyProof.Rows.callWith_builtin1 (thn (ha pos pins s σ H _ I h) fun us s1 ⟨vs, H1, I1, r1, q1⟩ => hc pins s1 σ H1 vs us Q I1 r1 q1) he hpl
theorem pe_callTy (hc : CallR X (.type T) r) (hg : Gl X x) (hm : X.mg x = none) (hv : bootBuiltins x = some (.type T)) (ha : PA X (e :: es) t) (hn : x ≠ "__name__" := by decide) (hdb : (x == ("__debug__" : Str)) = false := by decide)
    (he : starEach (e :: es) X.env = (false, eval e X.env) :: starEach es X.env := by rfl) (hpl : (backTo pos (starEach es X.env)).any (·.1) = false := by rfl) : PE X (.Call (.Name x p) (e :: es) [] pos) (tCB r t) := by
  intro pins s σ H Q I h
  refine wpAny_Call_Name_kw (ld_blt I hg hm hv ?_ hn hdb)
  exact PyProof.Rows.callWith_type1 (thn (ha pos pins s σ H _ I h) fun us s1 ⟨vs, H1, I1, r1, q1⟩ => hc pins s1 σ H1 vs us Q I1 r1 q1) he hpl
end
end L2

namespace HT
open PySem PyProof.Rows

section
open PySem.SeqAt
open PySem.AutoSeq1 (wpAny_loadPart')
open PySem.MeetsSeq PySem.MeetsSeq2 PySem.MeetsSeq3

end

section
variable {prog : Program} {w : World} {A : Around} {E : Value → Shared → Prop} {s : Shared}

def sIx (n d : Nat) : Option Int → Nat
  | none => d
  | some v => if v < 0 then (v + (n : Int)).toNat else min v.toNat n
theorem sIx_none (n d : Nat) : sIx n d none = d := rfl
theorem sIx_nat (n d k : Nat) : sIx n d (some (k : Int)) = min k n := by
  show (if (k : Int) < 0 then ((k : Int) + (n : Int)).toNat else min (k : Int).toNat n) = min k n
  rw [if_neg (by omega), Int.toNat_natCast]
theorem sIx_le (n d : Nat) (hd : d ≤ n) (o : Option Int) : sIx n d o ≤ n := by
  cases o with
  | none => exact hd
  | some v =>
    show (if v < 0 then (v + (n : Int)).toNat else min v.toNat n) ≤ n
    by_cases hv : v < 0
    · rw [if_pos hv]; omega
    · rw [if_neg hv]; exact Nat.min_le_right _ _
end
end HT

namespace L2
open PySem PySem.Spec PyProof.Rows

abbrev TO := St → Hp → (Option Int → Hp → Prop) → Prop
def PO (X : Cx) (e : Option Expr) (t : TO) : Prop :=
  ∀ (pins : List (Addr × Obj)) (s : Shared) (σ : St) (H : Hp) (Q : Option Int → Hp → Prop), Inv X pins σ H s → t σ H Q →
    wpAny (model X.prog X.w) X.A (evalPart e X.env) (fun u s' => ∃ o H', Inv X pins σ H' s' ∧ IsPart u o ∧ Q o H') X.xe s
def tNoPart : TO := fun _ H Q => Q none H
def tPart (t : TE) : TO := fun σ H Q => t σ H fun x H1 => ∃ i, x = .int i ∧ Q (some i) H1

section
variable {X : Cx} {e : Expr} {te : TE} {lo hi : Option Expr} {tl th : TO} {pos p2 : Pos}

theorem po_none : PO X none tNoPart := by
  intro pins s σ H Q I h
  rw [evalPart_none]
  exact wpAny_pure ⟨none, H, I, .none, h⟩
theorem po_some (h : PE X e te) : PO X (some e) (tPart te) := by
  intro pins s σ H Q I hw
  rw [evalPart_some]
  refine thn (h pins s σ H _ I hw) fun u s1 ⟨x, H1, I1, r1, q1⟩ => ?_
  obtain ⟨i, rfl, q⟩ := q1
  obtain ⟨t, rfl⟩ := r1
  exact ⟨some i, H1, I1, .int i t, q⟩

def SlR (X : Cx) (r : V → Option Int → Option Int → Hp → VK → Prop) : Prop :=
  ∀ (pins : List (Addr × Obj)) (s : Shared) (σ : St) (H : Hp) (x : V) (v vl vu : Value) (lo hi : Option Int) (sl : Addr) (Q : VK), Inv X pins σ H s → RelV x v → s.heap.IsSliceOf sl vl vu .none → IsPart vl lo → IsPart vu hi → r x lo hi H Q →
    ∃ T id, typeLookup (.type T) "__getitem__" = pure (some (.builtin id)) ∧ s.TypeIs v T ∧ wpAny (model X.prog X.w) X.A (getItem v (.ref sl)) (EP X pins σ Q) X.xe s
theorem SlR.or {r r' : V → Option Int → Option Int → Hp → VK → Prop} (h : SlR X r) (h' : SlR X r') : SlR X (fun x lo hi H Q => r x lo hi H Q ∨ r' x lo hi H Q) := by
  intro pins s σ H x v vl vu lo hi sl Q I rx hs pl pu q
  rcases q with q | q
  · exact h pins s σ H x v vl vu lo hi sl Q I rx hs pl pu q
  · exact h' pins s σ H x v vl vu lo hi sl Q I rx hs pl pu q
def tSl (r : V → Option Int → Option Int → Hp → VK → Prop) (te : TE) (tl th : TO) : TE := fun σ H Q => te σ H fun x H1 => tl σ H1 fun l H2 => th σ H2 fun u H3 => r x l u H3 Q
theorem pe_slice {r : V → Option Int → Option Int → Hp → VK → Prop} (hr : SlR X r) (he : PE X e te) (hl : PO X lo tl) (hu : PO X hi th) : PE X (.Subscript e (.Slice lo hi none p2) pos) (tSl r te tl th) := by
  intro pins s σ H Q I h
  refine Subscript_ (thn (he pins s σ H _ I h) fun v s1 ⟨x, H1, I1, r1, q1⟩ => ?_)
  refine wpAny_Slice (thn (hl pins s1 σ H1 _ I1 q1) fun vl s2 ⟨l, H2, I2, pl, q2⟩ => thn (hu pins s2 σ H2 _ I2 q2) fun vu s3 ⟨u, H3, I3, pu, q3⟩ => ?_)
  rw [evalPart_none]
  refine wpAny_pure ?_
  have I4 : Inv X pins σ H3 { s3 with heap := s3.heap.push { cls := .type "slice", data := .fields #[vl, vu, .none] } } := I3.kept (t' := s3.toks) fun b ob q => Heap.get?_push_of_some _ q
  obtain ⟨T, id, hT, ht, hg⟩ := hr pins { s3 with heap := s3.heap.push { cls := .type "slice", data := .fields #[vl, vu, .none] } } σ H3 x v vl vu l u s3.heap.objs.size Q I4 r1 (Heap.IsSliceOf.new ..) pl pu q3
  show wpAny (model X.prog X.w) X.A (subscriptTail e (.Slice lo hi none p2) v (.ref s3.heap.objs.size)) (EP X pins σ Q) X.xe { s3 with heap := s3.heap.push { cls := .type "slice", data := .fields #[vl, vu, .none] } }
  exact tail_any (ops := [.ref s3.heap.objs.size, v]) ht hT hg (by with_unfolding_all rfl)

def cutV (xs : List V) (lo hi : Option Int) : List V := (xs.drop (HT.sIx xs.length 0 lo)).take (HT.sIx xs.length xs.length hi - HT.sIx xs.length 0 lo)
theorem cutV_length (xs : List V) (lo hi : Option Int) : (cutV xs lo hi).length ≤ xs.length := by
  unfold cutV
  rw [List.length_take, List.length_drop]
  omega
end
end L2

namespace L2
open PySem PySem.Spec PyProof.Rows

def ixN (n : Nat) (i : Int) : Option Nat := if 0 ≤ i then (if i < n then some i.toNat else none) else if -(n : Int) ≤ i then some (i + n).toNat else none
def atI {α : Type} (xs : List α) (i : Int) : Option α := (ixN xs.length i).bind fun j => xs[j]?
theorem ixN_seq {n : Nat} {i : Int} {j : Nat} (h : ixN n i = some j) : seqIndex? i n = some j ∧ j < n ∧ -(n : Int) ≤ i ∧ i < n := by
  unfold ixN at h
  by_cases h0 : 0 ≤ i
  · rw [if_pos h0] at h
    by_cases h1 : i < n
    · rw [if_pos h1] at h
      have e : i.toNat = j := Option.some.inj h
      exact ⟨by rw [seqIndex_of h0 h1, e], by omega, by omega, h1⟩
    · rw [if_neg h1] at h; cases h
  · rw [if_neg h0] at h
    by_cases h1 : -(n : Int) ≤ i
    · rw [if_pos h1] at h
      have e : (i + n).toNat = j := Option.some.inj h
      exact ⟨by rw [seqIndex_neg (by omega) h1, e], by omega, h1, by omega⟩
    · rw [if_neg h1] at h; cases h
theorem atI_get {α : Type} {xs : List α} {i : Int} {v : α} (h : atI xs i = some v) : ∃ j, seqIndex? i xs.length = some j ∧ xs[j]? = some v ∧ j < xs.length ∧ -(xs.length : Int) ≤ i ∧ i < xs.length := by
  unfold atI at h
  cases e : ixN xs.length i with
  | none => rw [e] at h; cases h
  | some j =>
    rw [e] at h
    obtain ⟨h1, h2, h3, h4⟩ := ixN_seq e
    exact ⟨j, h1, h, h2, h3, h4⟩
theorem atI_nat {α : Type} {xs : List α} {j : Nat} {v : α} (h : xs[j]? = some v) : atI xs (j : Int) = some v := by
  have hj : j < xs.length := (List.getElem?_eq_some_iff.mp h).1
  have e : ixN xs.length (j : Int) = some j := by
    unfold ixN
    rw [if_pos (by omega), if_pos (by omega)]; simp
  unfold atI; rw [e]; exact h
def PlainIx (b : Expr) : Prop := ∀ o i, subscripted b false o i = operate [o, i] (getItem o i)
def IxR (X : Cx) (r : R2) : Prop :=
  ∀ (value slice : Expr) (pins : List (Addr × Obj)) (s : Shared) (σ : St) (H : Hp) (x y : V) (v u : Value) (Q : VK), Inv X pins σ H s → RelV x v → RelV y u → r x y H Q →
    subscripted slice false v u = operate [v, u] (getItem v u) → wpAny (model X.prog X.w) X.A (subscriptTail value slice v u) (EP X pins σ Q) X.xe s
def MtR (X : Cx) (id : String) (r : V → List V → Hp → VK → Prop) : Prop :=
  ∀ (pins : List (Addr × Obj)) (s : Shared) (σ : St) (H : Hp) (x : V) (xs : List V) (v : Value) (us : List Value) (Q : VK), Inv X pins σ H s → RelV x v → Vals xs us → r x xs H Q →
    wpAny (model X.prog X.w) X.A (call (.builtin id) (v :: us)) (EP X pins σ Q) X.xe s
section
variable {X : Cx} {a b : Expr} {ta tb : TE} {pos : Pos}
theorem IxR.or {r r' : R2} (h : IxR X r) (h' : IxR X r') : IxR X (fun x y H Q => r x y H Q ∨ r' x y H Q) := by
  intro value slice pins s σ H x y v u Q I rx ry q hs
  rcases q with q | q
  · exact h value slice pins s σ H x y v u Q I rx ry q hs
  · exact h' value slice pins s σ H x y v u Q I rx ry q hs
theorem MtR.or {id : String} {r r' : V → List V → Hp → VK → Prop} (h : MtR X id r) (h' : MtR X id r') : MtR X id (fun x xs H Q => r x xs H Q ∨ r' x xs H Q) := by
  intro pins s σ H x xs v us Q I rx rs q
  rcases q with q | q
  · exact h pins s σ H x xs v us Q I rx rs q
  · exact h' pins s σ H x xs v us Q I rx rs q
theorem pe_ix {r : R2} (hr : IxR X r) (ha : PE X a ta) (hb : PE X b tb) (hs : PlainIx b) : PE X (.Subscript a b pos) (tOp r ta tb) := by
  intro pins s σ H Q I h
  exact Subscript_ (binT ha hb I h fun v u s2 x y H2 I2 rx ry q => hr a b pins s2 σ H2 x y v u Q I2 rx ry q (hs _ _))

def rIxL (K : PySem.W.Frag) : R2 := fun x y H Q => ∃ p xs i v, x = .ref p ∧ y = .int i ∧ SqL K H p xs ∧ atI xs i = some v ∧ Q v H
def rIxT (K : PySem.W.Frag) : R2 := fun x y H Q => ∃ p xs i v, x = .ref p ∧ y = .int i ∧ SqT K H p xs ∧ atI xs i = some v ∧ Q v H
def rIxS : R2 := fun x y H Q => ∃ z i c, x = .str z ∧ y = .int i ∧ z.length ≤ sizeLine ∧ atI z.cps.toList i = some c ∧ Q (.str ⟨#[c]⟩) H
theorem ix_list : IxR X (rIxL X.K) := by
  intro value slice pins s σ H x y v u Q I rx ry h hs
  obtain ⟨p, xs, i, z, rfl, rfl, hq, he, q⟩ := h
  cases rx
  obtain ⟨t, rfl⟩ := ry
  obtain ⟨its, r, pl, hz⟩ := I.list hq
  obtain ⟨j, h1, h2, h3, h4, h5⟩ := atI_get he
  obtain ⟨w, ew, rw'⟩ := r.get h2
  have hl := r.length
  have hn := line63
  have fin : EP X pins σ Q w s := ⟨z, H, I, rw', q⟩
  by_cases h0 : 0 ≤ i
  · have hj : i.toNat = j := by
      rw [seqIndex_of h0 h5] at h1
      exact Option.some.inj h1
    exact item_listR pl.isList h0 (by omega) (by rw [hj]; simpa using ew) fin hs
  · have hj : (i + (its.toArray.size : Int)).toNat = j := by
      rw [seqIndex_neg (by omega) h4] at h1
      rw [List.size_toArray, ← hl]
      exact Option.some.inj h1
    exact subscriptTail_builtinR (x := w) pl.isList.typeIs slot_list_getitem.lookup
      (wpAny_getItem_list_neg (Q := fun r s' => r = w ∧ EP X pins σ Q r s') pl.isList (by omega) (by rw [List.size_toArray] <;> omega) (by omega) (by rw [hj]; simpa using ew) ⟨rfl, fin⟩) hs
theorem ix_tup : IxR X (rIxT X.K) := by
  intro value slice pins s σ H x y v u Q I rx ry h hs
  obtain ⟨p, xs, i, z, rfl, rfl, hq, he, q⟩ := h
  cases rx
  obtain ⟨t, rfl⟩ := ry
  obtain ⟨its, r, pl, hz⟩ := I.tuple hq
  obtain ⟨j, h1, h2, h3, h4, h5⟩ := atI_get he
  obtain ⟨w, ew, rw'⟩ := r.get h2
  have hl := r.length
  have hn := line63
  have fin : EP X pins σ Q w s := ⟨z, H, I, rw', q⟩
  exact subscriptTail_builtinR (x := w) pl.typeIs slot_tuple_getitem.lookup
    (getItem_tuple (j := j) (Q := fun r s' => r = w ∧ EP X pins σ Q r s') pl (by omega) (by omega) (by rw [List.size_toArray, ← hl]; exact h1) (by simpa using ew) ⟨rfl, fin⟩) hs
theorem ix_str : IxR X rIxS := by
  intro value slice pins s σ H x y v u Q I rx ry h hs
  obtain ⟨z, i, c, rfl, rfl, hz, he, q⟩ := h
  obtain ⟨t, rfl⟩ := rx
  obtain ⟨t', rfl⟩ := ry
  obtain ⟨j, h1, h2, h3, h4, h5⟩ := atI_get he
  have hl : z.cps.toList.length = z.length := by simp [Str.length]
  rw [hl] at h1 h4 h5
  have hn := line63
  exact tail_any (typeIs_str s z t) slot_str_getitem.lookup (getItem_str (c := c) (by
    have e1 : decide (i < -(2 ^ 63 : Int)) = false := decide_eq_false (by omega)
    have e2 : decide (i ≥ 2 ^ 63) = false := decide_eq_false (by omega)
    rw [e1, e2, Bool.or_false]) (by rw [h1]; simpa using h2) ⟨.str ⟨#[c]⟩, H, I.tok _, ⟨_, rfl⟩, q⟩) hs
theorem mapSeq_set (its : List Value) (n j : Nat) (u : Value) : Obj.mapSeq (·.setIfInBounds j u) { cls := .type "list", data := .seq its.toArray n } = { cls := .type "list", data := .seq (its.set j u).toArray n } := by
  simp [Obj.mapSeq]
theorem Inv.lst {pins : List (Addr × Obj)} {σ : St} {H : Hp} {s : Shared} {p : Addr} {xs : List V} (I : Inv X pins σ H s) (h : H p = some (.lst xs)) :
    ∃ (its : List Value) (n : Nat), Vals xs its ∧ s.heap.get? p = some { cls := .type "list", data := .seq its.toArray n } ∧ xs.length ≤ sizeLine := by
  obtain ⟨z, its, n, r, e⟩ := I.hok p _ h
  exact ⟨its, n, r, e, z⟩
theorem Inv.lstUpd {pins : List (Addr × Obj)} {σ : St} {H : Hp} {s : Shared} {p : Addr} {xs ys : List V} {its its' : List Value} {n n' : Nat} {f : Obj → Obj} (I : Inv X pins σ H s) (h : H p = some (.lst xs))
    (ho : s.heap.get? p = some { cls := .type "list", data := .seq its.toArray n }) (hf : f { cls := .type "list", data := .seq its.toArray n } = { cls := .type "list", data := .seq its'.toArray n' }) (r : Vals ys its') (hz : ys.length ≤ sizeLine) (t : Nat) :
    Inv X pins σ (upd H p (.lst ys)) { s with heap := s.heap.update p f, toks := t } := by
  have e : (s.heap.update p f).get? p = some { cls := .type "list", data := .seq its'.toArray n' } := by
    rw [Heap.get?_update_self f ho (by rw [hf] <;> rfl), hf]
  refine I.write (x := p) (e := p) (by rw [h]; trivial) (.inl rfl) (fun b u hb q => (Heap.get?_update_other _ _ (Ne.symm hb)).trans q) ⟨_, e⟩ ?_
  exact ⟨hz, its', n', r, e⟩
def rSetL : V → V → V → Hp → (Hp → Prop) → Prop := fun o i v H Q => ∃ p xs k j, o = .ref p ∧ i = .int k ∧ H p = some (.lst xs) ∧ ixN xs.length k = some j ∧ Q (upd H p (.lst (xs.set j v)))
theorem set_list : PSet X rSetL := by
  intro pins s σ H o i v ov iv u Q I ro ri rv h
  obtain ⟨p, xs, k, j, rfl, rfl, hp, hj, q⟩ := h
  cases ro
  obtain ⟨t, rfl⟩ := ri
  obtain ⟨its, n, r, ho, hz⟩ := I.lst hp
  obtain ⟨h1, h2, h3, h4⟩ := ixN_seq hj
  have hl := r.length
  have hn := line63
  have I' : Inv X pins σ (upd H p (.lst (xs.set j v))) { s with heap := s.heap.update p (Obj.mapSeq (·.setIfInBounds j u)) } :=
    I.lstUpd hp ho (mapSeq_set its n j u) (r.set rv j) (by rw [List.length_set]; exact hz) s.toks
  by_cases h0 : 0 ≤ k
  · have hk : k.toNat = j := by
      rw [seqIndex_of h0 h4] at h1
      exact Option.some.inj h1
    exact PySem.W.ki_setAt ho h0 (by omega) (by rw [List.size_toArray, ← hl]; exact h4) (by rw [hk]; exact ⟨_, I', q⟩)
  · have hk : (k + (its.toArray.size : Int)).toNat = j := by
      rw [seqIndex_neg (by omega) h3] at h1
      rw [List.size_toArray, ← hl]
      exact Option.some.inj h1
    exact PySem.W.ki_setBack ho (by omega) (by rw [List.size_toArray, ← hl]; exact h3) (by omega) (by rw [hk]; exact ⟨_, I', q⟩)

theorem slice_bounds (lo hi : Option Int) (n : Nat) : (sliceBounds lo hi none n).1 = ((HT.sIx n 0 lo : Nat) : Int) ∧ (sliceBounds lo hi none n).2.1 = ((HT.sIx n n hi : Nat) : Int) ∧ (sliceBounds lo hi none n).2.2 = 1 := by
  refine ⟨?_, ?_, rfl⟩
  · cases lo with
    | none => simp [sliceBounds, HT.sIx]
    | some i =>
      simp only [sliceBounds, HT.sIx, Option.getD_none, show (1 : Int) > 0 by decide, if_true]
      by_cases h : i < 0
      · simp only [h, if_true] <;> omega
      · simp only [h, if_false] <;> omega
  · cases hi with
    | none => simp [sliceBounds, HT.sIx]
    | some i =>
      simp only [sliceBounds, HT.sIx, Option.getD_none, show (1 : Int) > 0 by decide, if_true]
      by_cases h : i < 0
      · simp only [h, if_true] <;> omega
      · simp only [h, if_false] <;> omega
theorem slicePick_cut (its : List Value) (lo hi : Option Int) : slicePick its.toArray lo hi none = ((its.drop (HT.sIx its.length 0 lo)).take (HT.sIx its.length its.length hi - HT.sIx its.length 0 lo)).toArray := by
  obtain ⟨h1, h2, h3⟩ := slice_bounds lo hi its.toArray.size
  unfold slicePick
  rw [h1, h2, h3]
  simp only [sliceRange_one, pick_run, List.size_toArray] <;> rfl
def rSlL (K : PySem.W.Frag) : V → Option Int → Option Int → Hp → VK → Prop := fun x lo hi H Q => ∃ a xs, x = .ref a ∧ SqL K H a xs ∧ ∀ p, H p = none → Q (.ref p) (upd H p (.lst (cutV xs lo hi)))
theorem sl_list : SlR X (rSlL X.K) := by
  intro pins s σ H x v vl vu lo hi sl Q I rx hs pl pu h
  obtain ⟨a, xs, rfl, hx, q⟩ := h
  cases rx
  obtain ⟨its, r, ht, hz⟩ := I.list hx
  have hlen := r.length
  refine ⟨"list", _, slot_list_getitem.lookup, ht.isList.typeIs, ?_⟩
  refine wpAny_getItem_list_slice ht.isList hs pl pu .none (by simp) ?_ (by rw [List.size_toArray] <;> omega)
  rw [slicePick_cut, ← hlen]
  refine ⟨.ref s.heap.objs.size, _, I.laid (t' := s.toks) (o := .lst (cutV xs lo hi)) (fun b ob q => Heap.get?_push_of_some _ q) (Nat.le_refl _) ?_, rfl, q _ (I.hok.fresh (Nat.le_refl _))⟩
  exact ⟨Nat.le_trans (cutV_length xs lo hi) hz, _, 0, (r.drop (HT.sIx xs.length 0 lo)).take (HT.sIx xs.length xs.length hi - HT.sIx xs.length 0 lo), Heap.get?_push_size _ rfl⟩

def flatV : V → Bool
  | .non => true
  | .bl _ => true
  | .int _ => true
  | .str _ => true
  | _ => false
def eqV : V → V → Bool
  | .non, .non => true
  | .bl a, .bl b => a == b
  | .bl a, .int b => (if a then 1 else 0) == b
  | .int a, .bl b => a == (if b then 1 else 0)
  | .int a, .int b => a == b
  | .str a, .str b => a == b
  | _, _ => false
theorem eqAt_V {A : Around} {s : Shared} {y x : V} {u v : Value} (ry : RelV y u) (rx : RelV x v) (fy : flatV y = true) (fx : flatV x = true) : SeqAt.EqAt A s u v (eqV y x) := by
  cases y with
  | non =>
    cases ry
    cases x with
    | non => cases rx; exact SeqAt.EqAt.same _
    | bl b => cases rx; exact SeqAt.EqAt.none_bool b
    | int b => obtain ⟨t, rfl⟩ := rx; exact SeqAt.EqAt.none_int b t
    | str b => obtain ⟨t, rfl⟩ := rx; exact SeqAt.EqAt.none_str b t
    | _ => exact absurd (show false = true from fx) Bool.false_ne_true
  | bl a =>
    cases ry
    cases x with
    | non => cases rx; exact SeqAt.EqAt.bool_none a
    | bl b => cases rx; exact SeqAt.EqAt.bool_bool a b
    | int b => obtain ⟨t, rfl⟩ := rx; exact SeqAt.EqAt.bool_int a b t
    | str b => obtain ⟨t, rfl⟩ := rx; exact SeqAt.EqAt.bool_str a b t
    | _ => exact absurd (show false = true from fx) Bool.false_ne_true
  | int a =>
    obtain ⟨t', rfl⟩ := ry
    cases x with
    | non => cases rx; exact SeqAt.EqAt.int_none a t'
    | bl b => cases rx; exact SeqAt.EqAt.int_bool a t' b
    | int b => obtain ⟨t, rfl⟩ := rx; exact SeqAt.EqAt.int_int a t' b t
    | str b => obtain ⟨t, rfl⟩ := rx; exact SeqAt.EqAt.int_str a t' b t
    | _ => exact absurd (show false = true from fx) Bool.false_ne_true
  | str a =>
    obtain ⟨t', rfl⟩ := ry
    cases x with
    | non => cases rx; exact SeqAt.EqAt.str_none a t'
    | bl b => cases rx; exact SeqAt.EqAt.str_bool a t' b
    | int b => obtain ⟨t, rfl⟩ := rx; exact SeqAt.EqAt.str_int a t' b t
    | str b => obtain ⟨t, rfl⟩ := rx; exact SeqAt.EqAt.str_str a t' b t
    | _ => exact absurd (show false = true from fx) Bool.false_ne_true
  | _ => exact absurd (show false = true from fy) Bool.false_ne_true
def eqU (x : V) (u : Value) : Bool := match u with
  | .none => eqV .non x
  | .bool b => eqV (.bl b) x
  | .int i _ => eqV (.int i) x
  | .str z _ => eqV (.str z) x
  | _ => false
theorem eqU_of {x y : V} {u : Value} (r : RelV y u) (f : flatV y = true) : eqU x u = eqV y x := by
  cases y with
  | non => cases r; rfl
  | bl b => cases r; rfl
  | int i => obtain ⟨t, rfl⟩ := r; rfl
  | str z => obtain ⟨t, rfl⟩ := r; rfl
  | _ => exact absurd (show false = true from f) Bool.false_ne_true
theorem any_eqU {x : V} : ∀ {xs : List V} {us : List Value}, Vals xs us → xs.all flatV = true → us.any (eqU x) = xs.any fun y => eqV y x
  | _, _, .nil, _ => rfl
  | y :: xs, u :: us, .cons r t, f => by
    rw [List.all_cons, Bool.and_eq_true] at f
    rw [List.any_cons, List.any_cons, eqU_of r f.1, any_eqU t f.2]
theorem mem_eqAt {A : Around} {s : Shared} {x : V} {v : Value} (rx : RelV x v) (fx : flatV x = true) : ∀ {xs : List V} {us : List Value}, Vals xs us → xs.all flatV = true → ∀ u ∈ us, SeqAt.EqAt A s u v (eqU x u)
  | _, _, .nil, _ => fun u hu => by cases hu
  | y :: xs, u :: us, .cons r t, f => fun u' hu => by
    rw [List.all_cons, Bool.and_eq_true] at f
    rcases List.mem_cons.mp hu with rfl | hu
    · rw [eqU_of r f.1]; exact eqAt_V r rx f.1 fx
    · exact mem_eqAt rx fx t f.2 u' hu
def inV (x : V) (xs : List V) : Bool := xs.any fun y => eqV y x
def rIn (K : PySem.W.Frag) (neg : Bool) : R2 := fun x y H Q => ∃ p xs, y = .ref p ∧ (SqL K H p xs ∨ SqT K H p xs) ∧ flatV x = true ∧ xs.all flatV = true ∧ Q (.bl (if neg then !inV x xs else inV x xs)) H
theorem op_in_seq : OpR X (compareOp .In) (rIn X.K false) := by
  intro pins s σ H x y v u Q I rx ry h
  obtain ⟨p, xs, rfl, hq, fx, fs, q⟩ := h
  cases ry
  rcases hq with hq | hq
  · obtain ⟨its, r, pl, hz⟩ := I.list hq
    refine SeqAt.in_listAt (eqU x) pl.isList (fun w hw => mem_eqAt rx fx r fs w (by simpa using hw)) ⟨.bl _, H, I, rfl, ?_⟩
    rw [show its.toArray.any (eqU x) = its.any (eqU x) by simp, any_eqU r fs]
    exact q
  · obtain ⟨its, r, pl, hz⟩ := I.tuple hq
    refine SeqAt.in_tupleAt (eqU x) pl (fun w hw => mem_eqAt rx fx r fs w (by simpa using hw)) ⟨.bl _, H, I, rfl, ?_⟩
    rw [show its.toArray.any (eqU x) = its.any (eqU x) by simp, any_eqU r fs]
    exact q
theorem op_notIn_seq : OpR X (compareOp .NotIn) (rIn X.K true) := by
  intro pins s σ H x y v u Q I rx ry h
  obtain ⟨p, xs, rfl, hq, fx, fs, q⟩ := h
  cases ry
  rcases hq with hq | hq
  · obtain ⟨its, r, pl, hz⟩ := I.list hq
    refine SeqAt.notIn_listAt (eqU x) pl.isList (fun w hw => mem_eqAt rx fx r fs w (by simpa using hw)) ⟨.bl _, H, I, rfl, ?_⟩
    rw [show its.toArray.any (eqU x) = its.any (eqU x) by simp, any_eqU r fs]
    exact q
  · obtain ⟨its, r, pl, hz⟩ := I.tuple hq
    refine SeqAt.notIn_tupleAt (eqU x) pl (fun w hw => mem_eqAt rx fx r fs w (by simpa using hw)) ⟨.bl _, H, I, rfl, ?_⟩
    rw [show its.toArray.any (eqU x) = its.any (eqU x) by simp, any_eqU r fs]
    exact q
theorem call_len_seq : CallR X (.builtin "len") (fun xs H Q => ∃ p ys, xs = [.ref p] ∧ (SqL X.K H p ys ∨ SqT X.K H p ys) ∧ Q (.int ys.length) H) := by
  intro pins s σ H xs us Q I r h
  obtain ⟨p, ys, rfl, hq, q⟩ := h
  obtain ⟨u, rfl, rx⟩ := vals1 r
  cases rx
  have hn := line63
  rcases hq with hq | hq
  · obtain ⟨its, r', pl, hz⟩ := I.list hq
    have hlen := r'.length
    exact Calls.call_len_list pl.isList (by simp only [List.size_toArray] <;> omega) ⟨.int ys.length, H, I.tok _, ⟨s.toks + 1, by rw [List.size_toArray, hlen]⟩, q⟩
  · obtain ⟨its, r', pl, hz⟩ := I.tuple hq
    have hlen := r'.length
    exact len_tuple pl (by simp only [List.size_toArray] <;> omega) ⟨.int ys.length, H, I.tok _, ⟨s.toks + 1, by rw [List.size_toArray, hlen]⟩, q⟩
theorem call_len_str : CallR X (.builtin "len") (fun xs H Q => ∃ z, xs = [.str z] ∧ z.length ≤ sizeLine ∧ Q (.int z.length) H) := by
  intro pins s σ H xs us Q I r h
  obtain ⟨z, rfl, hz, q⟩ := h
  obtain ⟨u, rfl, t, rfl⟩ := vals1 r
  have hn := line63
  exact len_str (by omega) ⟨.int z.length, H, I.tok _, ⟨_, rfl⟩, q⟩
theorem CallR.or {f : Value} {r r' : List V → Hp → VK → Prop} (h : CallR X f r) (h' : CallR X f r') : CallR X f (fun xs H Q => r xs H Q ∨ r' xs H Q) := by
  intro pins s σ H xs us Q I rs q
  rcases q with q | q
  · exact h pins s σ H xs us Q I rs q
  · exact h' pins s σ H xs us Q I rs q
theorem call_list_of : CallR X (.type "list") (fun xs H Q => ∃ p ys, xs = [.ref p] ∧ (SqL X.K H p ys ∨ SqT X.K H p ys) ∧ ∀ l, H l = none → Q (.ref l) (upd H l (.lst ys))) := by
  intro pins s σ H xs us Q I r h
  obtain ⟨p, ys, rfl, hq, q⟩ := h
  obtain ⟨u, rfl, rx⟩ := vals1 r
  cases rx
  have fin : ∀ (its : List Value), Vals ys its → ys.length ≤ sizeLine → ∀ (h' : Heap) (c' : Nat), (∀ b o', s.heap.get? b = some o' → h'.get? b = some o') →
      h'.get? s.heap.objs.size = some { cls := .type "list", dict := none, data := .seq its.toArray c', slots := #[] } → EP X pins σ Q (.ref s.heap.objs.size) { s with heap := h' } := fun its r' hz h' c' kp e =>
    ⟨.ref s.heap.objs.size, _, I.laid (t' := s.toks) kp (Nat.le_refl _) (show ObjOk X.prog X.w _ h' _ (.lst ys) from ⟨hz, its, c', r', e⟩), rfl, q _ (I.hok.fresh (Nat.le_refl _))⟩
  rcases hq with hq | hq
  · obtain ⟨its, r', pl, hz⟩ := I.list hq
    have hlen := r'.length
    obtain ⟨o, ho, hc, n, hd⟩ := pl.isList
    exact call_list_seq p (.inl rfl) ho hc hd (fun h' c' kp e => fin its r' hz h' c' kp e) (by simp only [List.size_toArray] <;> omega)
  · obtain ⟨its, r', pl, hz⟩ := I.tuple hq
    have hlen := r'.length
    obtain ⟨o, ho, hc, n, hd⟩ := pl
    exact call_list_seq p (.inr rfl) ho hc hd (fun h' c' kp e => fin its r' hz h' c' kp e) (by simp only [List.size_toArray] <;> omega)
def tyV (K : PySem.W.Frag) (T : String) (x : V) (H : Hp) : Prop := match x with
  | .str _ => T = "str"
  | .int _ => T = "int"
  | .ref p => (T = "list" ∧ ∃ xs, SqL K H p xs) ∨ (T = "tuple" ∧ ∃ o, K.lookup p = some o ∧ o.cls = .type "tuple" ∧ o.dict = none) ∨
      (T = "dict" ∧ ((∃ kvs, H p = some (.dK kvs)) ∨ ∃ kvs, H p = some (.dT kvs))) ∨ (T = "set" ∧ ∃ S n, H p = some (.set S n))
  | _ => False
theorem tyV_is {pins : List (Addr × Obj)} {σ : St} {H : Hp} {s : Shared} {T : String} {x : V} {v : Value} (I : Inv X pins σ H s) (r : RelV x v) (ty : tyV X.K T x H) :
    s.TypeIs v T ∧ ∀ a, v = .ref a → ∃ ob, s.heap.get? a = some ob ∧ ob.dict = none := by
  cases x with
  | str z =>
    obtain ⟨t, rfl⟩ := r
    cases (show T = "str" from ty)
    exact ⟨typeIs_str s z t, fun _ e => nomatch e⟩
  | int i =>
    obtain ⟨t, rfl⟩ := r
    cases (show T = "int" from ty)
    exact ⟨typeIs_int s i t, fun _ e => nomatch e⟩
  | ref p =>
    cases r
    rcases ty with ⟨rfl, xs, hq⟩ | ⟨rfl, o, hk, hc, hd⟩ | ⟨rfl, hk⟩ | ⟨rfl, S, n, hk⟩
    · obtain ⟨its, _, pl, _⟩ := I.list hq
      refine ⟨pl.isList.typeIs, fun a e => ?_⟩
      cases e
      obtain ⟨o, n, e, c, hd, _⟩ := pl
      exact ⟨o, e, hd⟩
    · refine ⟨⟨o, I.kIn p o hk, hc⟩, fun a e => ?_⟩
      cases e
      exact ⟨o, I.kIn _ o hk, hd⟩
    · have z : ∃ o, s.heap.get? p = some o ∧ o.ExactDict := by
        rcases hk with ⟨kvs, hk⟩ | ⟨kvs, hk⟩
        · obtain ⟨_, _, _, _, o, _, _, e, ex, _⟩ := I.hok p _ hk
          exact ⟨o, e, ex⟩
        · obtain ⟨_, _, _, _, o, _, _, e, ex, _⟩ := I.hok p _ hk
          exact ⟨o, e, ex⟩
      obtain ⟨o, e, ex⟩ := z
      refine ⟨⟨o, e, ex.1⟩, fun a e2 => ?_⟩
      cases e2
      exact ⟨o, e, ex.2.1⟩
    · obtain ⟨o, _, _, _, e, ex, _⟩ := I.hok p _ hk
      refine ⟨⟨o, e, ex.1⟩, fun a e2 => ?_⟩
      cases e2
      exact ⟨o, e, ex.2.1⟩
  | _ => exact False.elim ty
def tBM0 (K : PySem.W.Frag) (T : String) (r : V → List V → Hp → VK → Prop) (to : TE) : TE := fun σ H Q => to σ H fun x H1 => tyV K T x H1 ∧ r x [] H1 Q
def tBM (K : PySem.W.Frag) (T : String) (r : V → List V → Hp → VK → Prop) (to : TE) (t : TA) : TE := fun σ H Q => to σ H fun x H1 => tyV K T x H1 ∧ t σ H1 fun xs H2 => r x xs H2 Q
variable {o e : Expr} {es : List Expr} {to : TE} {t : TA} {name : Str} {apos cpos : Pos} {T id : String} {r : V → List V → Hp → VK → Prop}
theorem pe_bm0 (pa : PlainAttrs T) (slot : Slot T name id) (hty : typeOf (.builtin id) = pure (.type "method_descriptor")) (hm : MtR X id r) (ho : PE X o to)
    (hbase : attributeBase o name X.env (eval o X.env) = eval o X.env := by rfl) (hline : (apos.endLine == cpos.line) = true := by rfl) : PE X (.Call (.Attribute o name apos) [] [] cpos) (tBM0 X.K T r to) := by
  intro pins s σ H Q I h
  refine wpAny_Call_method0_late hbase hline (thn (ho pins s σ H _ I h) fun v s1 ⟨x, H1, I1, r1, ty, q1⟩ => ?_)
  obtain ⟨h1, h2⟩ := tyV_is I1 r1 ty
  exact ⟨T, id, pa, slot, hty, h1, h2, Calls.callWith_builtin rfl (PySem.evalArgs_none (hm pins s1 σ H1 x [] v [] Q I1 r1 .nil q1))⟩
theorem pe_bm (pa : PlainAttrs T) (slot : Slot T name id) (hty : typeOf (.builtin id) = pure (.type "method_descriptor")) (hm : MtR X id r) (ho : PE X o to) (ha : PA X (e :: es) t)
    (hbase : attributeBase o name X.env (eval o X.env) = eval o X.env := by rfl)
    (hfew : ((backTo cpos (starEach (e :: es) X.env)).all (fun x => !x.1) && (backToKw cpos (keywordEach [] X.env)).all (fun x => x.1.isSome)
      && decide ((e :: es).length + ([] : List Keyword).length + (if ([] : List Keyword).isEmpty then 0 else 1) < 30)) = true := by rfl)
    (hline : (apos.endLine == cpos.line) = true := by rfl) (hs : starEach (e :: es) X.env = (false, eval e X.env) :: starEach es X.env := by rfl) (hplain : (backTo cpos (starEach es X.env)).any (·.1) = false := by rfl) :
    PE X (.Call (.Attribute o name apos) (e :: es) [] cpos) (tBM X.K T r to t) := by
  intro pins s σ H Q I h
  refine wpAny_Call_method_late hbase hfew hline rfl (thn (ho pins s σ H _ I h) fun v s1 ⟨x, H1, I1, r1, ty, q1⟩ => ?_)
  obtain ⟨h1, h2⟩ := tyV_is I1 r1 ty
  refine ⟨T, id, pa, slot, hty, h1, h2, ?_⟩
  have hA := ha cpos pins s1 σ H1 _ I1 q1
  rw [hs] at hA ⊢
  refine Calls.callWith_builtin (by show (false || (backTo cpos (starEach es X.env)).any (·.1)) = false; rw [hplain] <;> rfl) (Calls.evalArgs_plain ?_)
  exact thn hA fun us s2 ⟨vs, H2, I2, r2, q2⟩ => hm pins s2 σ H2 x vs v us Q I2 r1 r2 q2
end
end L2

namespace L2
open PySem PySem.Spec PyProof.Rows

def MtM (X : Cx) (id : String) (r : V → List V → Hp → VK → Prop) : Prop :=
  ∀ (pins : List (Addr × Obj)) (s : Shared) (σ : St) (H : Hp) (x : V) (xs : List V) (v : Value) (us : List Value) (Q : VK), Inv X pins σ H s → RelV x v → Vals xs us → r x xs H Q →
    wpAny (model X.prog X.w) X.A (call (.builtin id) (v :: us)) (EP X pins σ Q) X.xe s

theorem Vals.one : ∀ {x : V} {us : List Value}, Vals [x] us → ∃ u, us = [u] ∧ RelV x u
  | _, _, .cons r .nil => ⟨_, rfl, r⟩
theorem Vals.two : ∀ {x y : V} {us : List Value}, Vals [x, y] us → ∃ u v, us = [u, v] ∧ RelV x u ∧ RelV y v
  | _, _, _, .cons r (.cons q .nil) => ⟨_, _, rfl, r, q⟩
theorem Vals.zero : ∀ {us : List Value}, Vals [] us → us = []
  | _, .nil => rfl
theorem Vals.dropLast {xs : List V} {us : List Value} (h : Vals xs us) : Vals xs.dropLast us.dropLast := by
  induction h with
  | nil => exact .nil
  | cons r t ih =>
    cases t with
    | nil => exact .nil
    | cons q t' => exact .cons r ih
theorem Vals.reverse {xs : List V} {us : List Value} (h : Vals xs us) : Vals xs.reverse us.reverse := by
  induction h with
  | nil => exact .nil
  | cons r t ih => rw [List.reverse_cons, List.reverse_cons]; exact Vals.append ih (.cons r .nil)
theorem Vals.rep {xs : List V} {us : List Value} (h : Vals xs us) : ∀ k : Nat, Vals (List.replicate k xs).flatten (List.replicate k us).flatten
  | 0 => .nil
  | k + 1 => by
    rw [List.replicate_succ, List.replicate_succ, List.flatten_cons, List.flatten_cons]
    exact Vals.append h (Vals.rep h k)
theorem foldl_rep (its : List Value) : ∀ (k : Nat) (acc : List Value),
    List.foldl (fun x1 x2 => x1 ++ x2) acc.toArray (List.replicate k its.toArray) = (acc ++ (List.replicate k its).flatten).toArray
  | 0, acc => by simp
  | k + 1, acc => by
    have e : acc.toArray ++ its.toArray = (acc ++ its).toArray := by simp
    have e2 : (acc ++ its) ++ (List.replicate k its).flatten = acc ++ (List.replicate (k + 1) its).flatten := by
      rw [List.replicate_succ, List.flatten_cons, List.append_assoc]
    rw [← e2, ← foldl_rep its k (acc ++ its), ← e, List.replicate_succ, List.foldl_cons]

section
variable {X : Cx} {pins : List (Addr × Obj)} {σ : St} {H : Hp} {s : Shared} {l b : Addr} {xs ys zs : List V}

theorem Inv.lset {its its' : List Value} {n : Nat} {f : Array Value → Array Value} {t' : Nat} (I : Inv X pins σ H s) (hH : H l = some (.lst xs))
    (e : s.heap.get? l = some { cls := .type "list", data := .seq its.toArray n }) (hf : f its.toArray = its'.toArray) (hv : Vals ys its') (hz : ys.length ≤ sizeLine) :
    Inv X pins σ (upd H l (.lst ys)) { s with heap := s.heap.update l (Obj.mapSeq f), toks := t' } := by
  have q := PySem.IsL.update e f
  rw [hf] at q
  refine I.write (x := l) (e := l) (by rw [hH]; exact trivial) (.inl rfl) (fun b' u hb hu => (Heap.get?_update_other s.heap (Obj.mapSeq f) (Ne.symm hb)).trans hu) ⟨_, q⟩ ?_
  exact ⟨hz, its', _, hv, q⟩
theorem Inv.lnew {its : List Value} {t' : Nat} (I : Inv X pins σ H s) (hv : Vals ys its) (hz : ys.length ≤ sizeLine) :
    Inv X pins σ (upd H s.heap.objs.size (.lst ys)) { s with heap := s.heap.push { cls := .type "list", data := .seq its.toArray }, toks := t' } :=
  I.laid (fun _ _ q => Heap.get?_push_of_some _ q) (Nat.le_refl _) ⟨hz, its, 0, hv, Heap.get?_push_size _ rfl⟩
theorem Inv.fresh (I : Inv X pins σ H s) : H s.heap.objs.size = none := I.hok.fresh (Nat.le_refl _)
theorem Inv.lstM (I : Inv X pins σ H s) (hH : H l = some (.lst xs)) : xs.length ≤ sizeLine ∧ ∃ (its : List Value) (n : Nat), Vals xs its ∧ xs.length = its.length ∧ s.heap.get? l = some { cls := .type "list", data := .seq its.toArray n } := by
  obtain ⟨z, its, n, r, e⟩ := I.hok l _ hH
  exact ⟨z, its, n, r, r.length, e⟩

theorem notLongL {n : Nat} (h : n ≤ sizeLine) : Builtin.List.listTooLong n = false := by
  unfold Builtin.List.listTooLong
  exact decide_eq_false (by omega)
end

section
variable {X : Cx}

def rAppend : V → List V → Hp → VK → Prop := fun x vs H Q => ∃ l xs y, x = .ref l ∧ vs = [y] ∧ H l = some (.lst xs) ∧ xs.length < sizeLine ∧ Q .non (upd H l (.lst (xs ++ [y])))
theorem mt_append : MtM X "list.append" rAppend := by
  intro pins s σ H x vs v us Q I rx rv h
  obtain ⟨l, xs, y, rfl, rfl, hH, hz, q⟩ := h
  cases rx
  obtain ⟨u, rfl, ru⟩ := rv.one
  obtain ⟨z, its, n, r, hl, e⟩ := I.lstM hH
  refine call_meets F.slot_list_append ⟨_, e, rfl⟩ F.entry_list_append (F.args_list_append_2 _ _) (PySem.list_append l its.toArray n u (by rw [List.size_toArray]; omega)) ⟨e, ?_⟩
  refine ⟨.non, _, I.lset (its' := its ++ [u]) hH e (by simp) (r.append (.cons ru .nil)) ?_, rfl, q⟩
  rw [List.length_append, List.length_singleton]
  omega

def rCat : R2 := fun x y H Q => ∃ l b xs zs, x = .ref l ∧ y = .ref b ∧ H l = some (.lst xs) ∧ H b = some (.lst zs) ∧ xs.length + zs.length ≤ sizeLine ∧ ∀ p, H p = none → Q (.ref p) (upd H p (.lst (xs ++ zs)))
theorem op_cat : OpR X (binaryOp .Add) rCat := by
  intro pins s σ H x y v u Q I rx ry h
  obtain ⟨l, b, xs, zs, rfl, rfl, hH, hB, hz, q⟩ := h
  cases rx
  cases ry
  obtain ⟨z, its, n, r, hl, e⟩ := I.lstM hH
  obtain ⟨z2, its2, n2, r2, hl2, e2⟩ := I.lstM hB
  refine PySem.P.add_list e e2 ?_ (by rw [List.size_toArray, List.size_toArray]; omega)
  have ea : its.toArray ++ its2.toArray = (its ++ its2).toArray := by simp
  rw [ea]
  exact ⟨.ref _, _, I.lnew (t' := s.toks) (r.append r2) (by rw [List.length_append]; omega), rfl, q _ I.fresh⟩
def rRep : R2 := fun x y H Q => ∃ l k xs, x = .ref l ∧ y = .int k ∧ H l = some (.lst xs) ∧ -(2 ^ 63) ≤ k ∧ k < 2 ^ 63 ∧ xs.length * k.toNat ≤ sizeLine ∧
  ∀ p, H p = none → Q (.ref p) (upd H p (.lst (List.replicate k.toNat xs).flatten))
theorem len_rep {α : Type} (xs : List α) (k : Nat) : (List.replicate k xs).flatten.length = k * xs.length := by
  induction k with
  | zero => simp
  | succ k ih => rw [List.replicate_succ, List.flatten_cons, List.length_append, ih, Nat.succ_mul, Nat.add_comm]
theorem op_rep : OpR X (binaryOp .Mult) rRep := by
  intro pins s σ H x y v u Q I rx ry h
  obtain ⟨l, k, xs, rfl, rfl, hH, h1, h2, hz, q⟩ := h
  cases rx
  obtain ⟨t, rfl⟩ := ry
  obtain ⟨z, its, n, r, hl, e⟩ := I.lstM hH
  have hlen : its.toArray.size * k.toNat ≤ sizeLine := by rw [List.size_toArray, ← hl]; exact hz
  have hcap : ¬ its.toArray.size * k.toNat > (2 ^ 63 - 1) / 8 := by
    have : (sizeLine : Nat) ≤ (2 ^ 63 - 1) / 8 := by decide
    omega
  have hfit : ¬ (!Builtin.List.listFitsIndex k) = true := by
    rw [fitsIndex_both h1 h2]
    exact Bool.false_ne_true
  have hlong : ¬ Builtin.List.listTooLong (its.toArray.size * k.toNat) = true := by
    rw [notLongL hlen]
    exact Bool.false_ne_true
  have hnew : List.foldl (fun x1 x2 => x1 ++ x2) #[] (List.replicate (if its.toArray.isEmpty = true then 0 else k.toNat) its.toArray) = (List.replicate k.toNat its).flatten.toArray := by
    have f0 : ∀ m : Nat, List.foldl (fun x1 x2 => x1 ++ x2) #[] (List.replicate m its.toArray) = (List.replicate m its).flatten.toArray := fun m => by
      have := foldl_rep its m []
      rw [List.nil_append] at this
      exact this
    rw [f0]
    cases its with
    | nil => simp
    | cons a r' => rw [if_neg (by simp)]
  refine wpAny_binaryOp_repeat_ref (T := "list") (U := "int") (by decide) ⟨_, e, rfl⟩ (fun s' => typeIs_int s' k t) noFill_list_mul F.fills_int_mul F.slot_int_rmul repeat_list F.slot_int_index.lookup
    (call_meets F.slot_int_rmul (typeIs_int s k t) F.entry_int_rmul (F.args_int_rmul_2 _ _) (int___rmul___int_list k t l its.toArray n)
      ⟨e, rfl, ⟨_, e, rfl⟩, call_meets F.slot_list_mul ⟨_, e, rfl⟩ F.entry_list_mul (F.args_list_mul_2 _ _) (AutoListH.list___mul___list_int_3 l its.toArray n k t hfit hcap hlong) ⟨e, ?_⟩⟩)
  rw [hnew]
  exact ⟨.ref _, _, I.lnew (t' := s.toks) (r.rep k.toNat) (by rw [len_rep, Nat.mul_comm]; exact hz), rfl, q _ I.fresh⟩

end

section
variable {prog : Program} {w : World} {A : Around} {E : Value → Shared → Prop} {s : Shared}
end

section
variable {X : Cx}
end
end L2


namespace L2
open PySem PySem.Spec PyProof.Rows

section
variable {κ : Type} [DecidableEq κ]
def valV (kvs : List (κ × V)) (k : κ) : Option V := (kvs.find? fun kv => decide (kv.1 = k)).map (·.2)
def putK (kvs : List (κ × V)) (k : κ) (v : V) : List (κ × V) :=
  if (kvs.any fun kv => decide (kv.1 = k)) = true then kvs.map (fun kv => if kv.1 = k then (kv.1, v) else kv) else kvs ++ [(k, v)]
def dropK (kvs : List (κ × V)) (k : κ) : List (κ × V) := kvs.filter fun kv => decide (kv.1 ≠ k)

theorem valV_nil {k : κ} : valV ([] : List (κ × V)) k = none := rfl
theorem valV_pos {p : κ × V} {r : List (κ × V)} {k : κ} (e : p.1 = k) : valV (p :: r) k = some p.2 := by simp [valV, List.find?_cons, e]
theorem valV_neg {p : κ × V} {r : List (κ × V)} {k : κ} (e : ¬ p.1 = k) : valV (p :: r) k = valV r k := by simp [valV, List.find?_cons, e]
theorem valV_any (k : κ) : ∀ kvs : List (κ × V), (kvs.any fun kv => decide (kv.1 = k)) = (valV kvs k).isSome
  | [] => rfl
  | p :: r => by
    rw [List.any_cons]
    by_cases e : p.1 = k
    · simp only [valV_pos e, decide_eq_true e, Bool.true_or, Option.isSome_some]
    · rw [valV_neg e, decide_eq_false e, Bool.false_or]; exact valV_any k r
theorem valV_map (k j : κ) (y : V) : ∀ kvs : List (κ × V), valV (kvs.map fun kv => if kv.1 = k then (kv.1, y) else kv) j = (valV kvs j).map fun x => if j = k then y else x
  | [] => rfl
  | p :: r => by
    have ih := valV_map k j y r
    rw [List.map_cons]
    by_cases h : p.1 = k
    · rw [if_pos h]
      by_cases e : p.1 = j
      · rw [valV_pos (p := (p.1, y)) e, valV_pos e, Option.map_some, if_pos (e.symm.trans h)]
      · rw [valV_neg (p := (p.1, y)) e, valV_neg e, ih]
    · rw [if_neg h]
      by_cases e : p.1 = j
      · rw [valV_pos (p := p) e, valV_pos e, Option.map_some, if_neg (fun z => h (e.trans z))]
      · rw [valV_neg (p := p) e, valV_neg e, ih]
theorem valV_snoc (k j : κ) (y : V) : ∀ kvs : List (κ × V), valV kvs k = none → valV (kvs ++ [(k, y)]) j = if j = k then some y else valV kvs j
  | [], _ => by
    by_cases e : k = j
    · rw [if_pos e.symm]; exact valV_pos (p := (k, y)) e
    · rw [if_neg (fun z => e z.symm)]; exact valV_neg (p := (k, y)) e
  | p :: r, hn => by
    rw [List.cons_append]
    have hk : ¬ p.1 = k := fun z => by rw [valV_pos z] at hn; cases hn
    rw [valV_neg hk] at hn
    have ih := valV_snoc k j y r hn
    by_cases e : p.1 = j
    · rw [valV_pos e, valV_pos e, if_neg (fun z => hk (e.trans z))]
    · rw [valV_neg e, valV_neg e, ih]
theorem valV_put (kvs : List (κ × V)) (k j : κ) (y : V) : valV (putK kvs k y) j = if j = k then some y else valV kvs j := by
  unfold putK
  by_cases a : (kvs.any fun kv => decide (kv.1 = k)) = true
  · rw [if_pos a, valV_map]
    rw [valV_any] at a
    by_cases e : j = k
    · obtain ⟨x, hx⟩ := Option.isSome_iff_exists.mp a
      rw [if_pos e, e, hx, Option.map_some, if_pos rfl]
    · rw [if_neg e]
      cases valV kvs j with
      | none => rfl
      | some x => rw [Option.map_some, if_neg e]
  · rw [if_neg a]
    refine valV_snoc k j y kvs ?_
    rw [valV_any] at a
    cases q : valV kvs k with
    | none => rfl
    | some x => rw [q] at a; exact (a rfl).elim
theorem length_putK (kvs : List (κ × V)) (k : κ) (v : V) : (putK kvs k v).length ≤ kvs.length + 1 := by
  unfold putK
  split
  · rw [List.length_map]; omega
  · rw [List.length_append, List.length_cons, List.length_nil]; omega
theorem putK_new {kvs : List (κ × V)} {k : κ} (v : V) (h : valV kvs k = none) : putK kvs k v = kvs ++ [(k, v)] := by
  unfold putK
  rw [valV_any, h]
  exact if_neg (by decide)

theorem RelO.isSome_eq {o : Option V} {u : Option Value} (r : RelO o u) : o.isSome = u.isSome := by
  cases o with
  | none => cases u with
    | none => rfl
    | some _ => exact (show False from r).elim
  | some _ => cases u with
    | none => exact (show False from r).elim
    | some _ => rfl
theorem RelO.getD {o : Option V} {u : Option Value} {d : V} {d' : Value} (r : RelO o u) (rd : RelV d d') : RelV (o.getD d) (u.getD d') := by
  cases o with
  | none => cases u with
    | none => exact rd
    | some _ => exact (show False from r).elim
  | some _ => cases u with
    | none => exact (show False from r).elim
    | some _ => exact r

theorem KV.val {kvs : List (κ × V)} {vs : List (κ × Value)} (r : KV kvs vs) (k : κ) : RelO (valV kvs k) (valueAt vs k) := by
  unfold KV at r
  induction r with
  | nil => exact True.intro
  | @cons p q ps qs h t ih =>
    obtain ⟨h1, h2⟩ := h
    by_cases e : p.1 = k
    · have e' : q.1 = k := h1.symm.trans e
      have b : valueAt (q :: qs) k = some q.2 := by simp [valueAt, List.find?_cons, e']
      rw [valV_pos e, b]; exact h2
    · have e' : ¬ q.1 = k := fun z => e (h1.trans z)
      have b : valueAt (q :: qs) k = valueAt qs k := by simp [valueAt, List.find?_cons, e']
      rw [valV_neg e, b]; exact ih
theorem KV.any {kvs : List (κ × V)} {vs : List (κ × Value)} (r : KV kvs vs) (k : κ) : (kvs.any fun kv => decide (kv.1 = k)) = vs.any fun kv => decide (kv.1 = k) := by
  unfold KV at r
  induction r with
  | nil => rfl
  | cons h t ih => rw [List.any_cons, List.any_cons, ih, h.1]
theorem KV.repl {kvs : List (κ × V)} {vs : List (κ × Value)} (r : KV kvs vs) (k : κ) {y : V} {u : Value} (ry : RelV y u) :
    KV (kvs.map fun kv => if kv.1 = k then (kv.1, y) else kv) (vs.map fun kv => if kv.1 = k then (kv.1, u) else kv) := by
  unfold KV at r ⊢
  induction r with
  | nil => exact .nil
  | @cons p q ps qs h t ih =>
    rw [List.map_cons, List.map_cons]
    refine .cons ?_ ih
    obtain ⟨h1, h2⟩ := h
    by_cases e : p.1 = k
    · rw [if_pos e, if_pos (h1.symm.trans e)]; exact ⟨h1, ry⟩
    · rw [if_neg e, if_neg (fun z => e (h1.trans z))]; exact ⟨h1, h2⟩
theorem KV.put {kvs : List (κ × V)} {vs : List (κ × Value)} (r : KV kvs vs) (k : κ) {y : V} {u : Value} (ry : RelV y u) : KV (putK kvs k y) (stored vs k u) := by
  unfold putK stored
  rw [r.any k]
  by_cases e : (vs.any fun kv => decide (kv.1 = k)) = true
  · rw [if_pos e, if_pos e]; exact r.repl k ry
  · rw [if_neg e, if_neg e]; exact Paired.snoc r ⟨rfl, ry⟩
theorem KV.drop {kvs : List (κ × V)} {vs : List (κ × Value)} (r : KV kvs vs) (k : κ) : KV (dropK kvs k) (without vs k) := by
  unfold KV at r ⊢
  unfold dropK without
  induction r with
  | nil => exact .nil
  | @cons p q ps qs h t ih =>
    obtain ⟨h1, h2⟩ := h
    rw [List.filter_cons, List.filter_cons]
    by_cases e : p.1 = k
    · have a : ¬ decide (p.1 ≠ k) = true := by simp [e]
      have b : ¬ decide (q.1 ≠ k) = true := by simp [h1.symm.trans e]
      rw [if_neg a, if_neg b]; exact ih
    · have e' : ¬ q.1 = k := fun z => e (h1.trans z)
      have a : decide (p.1 ≠ k) = true := by simp [e]
      have b : decide (q.1 ≠ k) = true := by simp [e']
      rw [if_pos a, if_pos b]; exact .cons ⟨h1, h2⟩ ih
theorem KV.keys {kvs : List (κ × V)} {vs : List (κ × Value)} (r : KV kvs vs) : kvs.map (·.1) = vs.map (·.1) := by
  unfold KV at r
  induction r with
  | nil => rfl
  | cons h t ih => rw [List.map_cons, List.map_cons, ih, h.1]
theorem KV.length {kvs : List (κ × V)} {vs : List (κ × Value)} (r : KV kvs vs) : kvs.length = vs.length := Paired.length r
end


theorem kV_is {P : Program} {w : World} {k : Key} {u : Value} (r : RelV (kV k) u) : (mixKind P w).is k u = true := by
  cases k with
  | inl i => obtain ⟨t, e⟩ := (show ∃ t, u = Value.int i t from r); subst e; exact mixKind_int P w i t
  | inr x => obtain ⟨t, e⟩ := (show ∃ t, u = Value.str x t from r); subst e; exact mixKind_str P w x t
theorem items_are {P : Program} {w : World} : ∀ {ks : List Key} {us : List Value}, Vals (ks.map kV) us → ItemsAre (mixKind P w) ks us
  | [], _, r => by rw [List.map_nil] at r; cases r; exact .nil
  | k :: ks, _, r => by
    rw [List.map_cons] at r
    cases r with
    | cons h t => exact .cons (kV_is h) (items_are t)

abbrev KT (H : Hp) : List (List Key × V) → List (List Key × Addr × Value) → Prop := Paired fun p q => p.1 = q.1 ∧ H q.2.1 = some (.tup (p.1.map kV)) ∧ RelV p.2 q.2.2
theorem KT.val {H : Hp} {kvs : List (List Key × V)} {xs : List (List Key × Addr × Value)} (r : KT H kvs xs) (k : List Key) : RelO (valV kvs k) ((atKey xs k).map (·.2)) := by
  induction r with
  | nil => exact True.intro
  | @cons p q ps qs h t ih =>
    obtain ⟨h1, _, h2⟩ := h
    by_cases e : p.1 = k
    · have e' : q.1 = k := h1.symm.trans e
      have b : atKey (q :: qs) k = some q.2 := by simp [atKey, List.find?_cons, e']
      rw [valV_pos e, b]; exact h2
    · have e' : ¬ q.1 = k := fun z => e (h1.trans z)
      have b : atKey (q :: qs) k = atKey qs k := by simp [atKey, List.find?_cons, e']
      rw [valV_neg e, b]; exact ih
theorem KT.repl {H : Hp} {kvs : List (List Key × V)} {xs : List (List Key × Addr × Value)} (r : KT H kvs xs) (k : List Key) {y : V} {u : Value} (ry : RelV y u) :
    KT H (kvs.map fun kv => if kv.1 = k then (kv.1, y) else kv) (xs.map (putAt k u)) := by
  induction r with
  | nil => exact .nil
  | @cons p q ps qs h t ih =>
    rw [List.map_cons, List.map_cons]
    refine .cons ?_ ih
    obtain ⟨h1, h2, h3⟩ := h
    unfold putAt
    by_cases e : p.1 = k
    · rw [if_pos e, if_pos (h1.symm.trans e)]; exact ⟨h1, h2, ry⟩
    · rw [if_neg e, if_neg (fun z => e (h1.trans z))]; exact ⟨h1, h2, h3⟩
theorem KT.put {H : Hp} {kvs : List (List Key × V)} {xs : List (List Key × Addr × Value)} (r : KT H kvs xs) (k : List Key) {b : Addr} {y : V} {u : Value} (hb : H b = some (.tup (k.map kV))) (ry : RelV y u) :
    KT H (putK kvs k y) (storedH xs k b u) := by
  have e : (kvs.any fun kv => decide (kv.1 = k)) = (atKey xs k).isSome := by
    rw [valV_any, (r.val k).isSome_eq, Option.isSome_map]
  unfold putK storedH
  rw [e]
  by_cases q : (atKey xs k).isSome = true
  · rw [if_pos q, if_pos q]; exact r.repl k ry
  · rw [if_neg q, if_neg q]; exact Paired.snoc r ⟨rfl, hb, ry⟩
theorem KT.keeps {H H' : Hp} {kvs : List (List Key × V)} {xs : List (List Key × Addr × Value)} (r : KT H kvs xs) (ht : ∀ b ys, H b = some (.tup ys) → H' b = some (.tup ys)) : KT H' kvs xs :=
  Paired.mapP r fun _ _ z => ⟨z.1, ht _ _ z.2.1, z.2.2⟩

section
variable {P : Program} {w : World} {H : Hp} {h : Heap} {a : Addr}
theorem rd_of {u : HO} (ok : HOk P w H h) (e : Rd H a u) : ObjOk P w H h a u := e.ok ok
theorem dk_rd {kvs : List (Key × V)} (ok : HOk P w H h) (e : Rd H a (.dK kvs)) : kvs.length ≤ sizeLine ∧ (a == sysModules) = false ∧ ∃ vs, KV kvs vs ∧ h.DictOf (mixKind P w) a vs :=
  show ObjOk P w H h a (.dK kvs) from rd_of ok e
theorem dk_of {kvs : List (Key × V)} (ok : HOk P w H h) (e : H a = some (.dK kvs)) : kvs.length ≤ sizeLine ∧ (a == sysModules) = false ∧ ∃ vs, KV kvs vs ∧ h.DictOf (mixKind P w) a vs := dk_rd ok (.inl e)
theorem key_of {ks : List Key} (ok : HOk P w H h) (e : H a = some (.tup (ks.map kV))) : (tupleKind (mixKind P w)).is h ks a := by
  obtain ⟨_, its, r, o, h1, h2, n, h3⟩ := (show ObjOk P w H h a (.tup (ks.map kV)) from ok a _ e)
  exact ⟨o, its.toArray, n, h1, h2, h3, by simpa using items_are r⟩
theorem dt_rd {kvs : List (List Key × V)} (ok : HOk P w H h) (e : Rd H a (.dT kvs)) : kvs.length ≤ sizeLine ∧ (a == sysModules) = false ∧
    ∃ xs, KT H kvs xs ∧ h.DictOfH (tupleKind (mixKind P w)) a xs := by
  obtain ⟨z, y, xs, r, o, es, ep, h1, h2, h3, h4, h5⟩ := (show ObjOk P w H h a (.dT kvs) from rd_of ok e)
  refine ⟨z, y, xs, r, o, es, ep, h1, h2, h3, h4, fun x hx => ?_, h5⟩
  have all : ∀ {l : List (List Key × V)} {m : List (List Key × Addr × Value)}, KT H l m → ∀ x ∈ m, (tupleKind (mixKind P w)).is h x.1 x.2.1 := by
    intro l m q
    induction q with
    | nil => intro x hx; exact nomatch hx
    | @cons p q ps qs hq t ih =>
      intro x hx
      rcases List.mem_cons.mp hx with e | hx
      · subst e
        exact key_of ok (by rw [← hq.1]; exact hq.2.1)
      · exact ih x hx
  exact all r x hx
end

def DGet (H : Hp) (a : Addr) (y : V) (r : Option V) : Prop :=
  (∃ kvs k, Rd H a (.dK kvs) ∧ y = kV k ∧ r = valV kvs k) ∨ ∃ kvs k b, Rd H a (.dT kvs) ∧ y = .ref b ∧ H b = some (.tup (k.map kV)) ∧ r = valV kvs k
def DPut (H : Hp) (a : Addr) (y v : V) (H' : Hp) : Prop :=
  (∃ kvs k, H a = some (.dK kvs) ∧ y = kV k ∧ kvs.length < sizeLine ∧ H' = upd H a (.dK (putK kvs k v))) ∨
  ∃ kvs k b, H a = some (.dT kvs) ∧ y = .ref b ∧ H b = some (.tup (k.map kV)) ∧ kvs.length < sizeLine ∧ H' = upd H a (.dT (putK kvs k v))
theorem DGet.k {H : Hp} {a : Addr} {kvs : List (Key × V)} {k : Key} (e : H a = some (.dK kvs)) : DGet H a (kV k) (valV kvs k) := .inl ⟨kvs, k, .inl e, rfl, rfl⟩
theorem DGet.t {H : Hp} {a b : Addr} {kvs : List (List Key × V)} {k : List Key} (e : H a = some (.dT kvs)) (eb : H b = some (.tup (k.map kV))) : DGet H a (.ref b) (valV kvs k) := .inr ⟨kvs, k, b, .inl e, rfl, eb, rfl⟩
theorem DPut.k {H : Hp} {a : Addr} {kvs : List (Key × V)} {k : Key} {v : V} (e : H a = some (.dK kvs)) (hl : kvs.length < sizeLine) : DPut H a (kV k) v (upd H a (.dK (putK kvs k v))) := .inl ⟨kvs, k, e, rfl, hl, rfl⟩
theorem DPut.t {H : Hp} {a b : Addr} {kvs : List (List Key × V)} {k : List Key} {v : V} (e : H a = some (.dT kvs)) (eb : H b = some (.tup (k.map kV))) (hl : kvs.length < sizeLine) :
    DPut H a (.ref b) v (upd H a (.dT (putK kvs k v))) := .inr ⟨kvs, k, b, e, rfl, eb, hl, rfl⟩


section
variable {X : Cx} {pins : List (Addr × Obj)} {σ : St} {H : Hp} {s : Shared} {a : Addr} {y v : V} {u r : Value} {o : Option V} {A : Around} {E : Value → Shared → Prop}

theorem Inv.big (I : Inv X pins σ H s) : sysModules < s.heap.objs.size := by
  have h : mainGlobals < s.heap.objs.size := (I.mod.glob.keeps I.bk).lt
  exact Nat.lt_trans (by decide) h

theorem d_getItem {Q : Value → Shared → Prop} (hu : A.units + 1 < cLine) (I : Inv X pins σ H s) (g : DGet H a y (some v)) (ry : RelV y u) (h : ∀ w' s', Inv X pins σ H s' → RelV v w' → Q w' s') :
    wpAny (model X.prog X.w) A (getItem (.ref a) u) Q E s := by
  rcases g with ⟨kvs, k, e, ey, l⟩ | ⟨kvs, k, b, e, ey, eb, l⟩
  · subst ey
    obtain ⟨z, hd, vs, rel, dd⟩ := dk_rd I.hok e
    obtain ⟨w', hw, rw'⟩ := RelO.some_of (v := v) (o := valueAt vs k) (by rw [l]; exact rel.val k)
    exact wpAny_getItem_of (kV_is ry) dd.mapOf hw (h w' _ (I.tok _) rw')
  · subst ey
    cases (show u = Value.ref b from ry)
    obtain ⟨z, hd, xs, rel, dd⟩ := dt_rd I.hok e
    obtain ⟨w', hw, rw'⟩ := RelO.some_of (v := v) (o := (atKey xs k).map (·.2)) (by rw [l]; exact rel.val k)
    obtain ⟨p, hp, hp2⟩ := Option.map_eq_some_iff.mp hw
    refine wpAny_getItem_heap (tupleKind_room_in1 hu) (key_of I.hok eb) dd hp ?_
    rw [hp2]
    exact h w' _ (I.tok _) rw'
theorem d_in {Q : Value → Shared → Prop} (hu : A.units + 1 < cLine) (I : Inv X pins σ H s) (g : DGet H a y o) (ry : RelV y u) (h : ∀ s', Inv X pins σ H s' → Q (.bool o.isSome) s') :
    wpAny (model X.prog X.w) A (compareOp .In u (.ref a)) Q E s := by
  rcases g with ⟨kvs, k, e, ey, l⟩ | ⟨kvs, k, b, e, ey, eb, l⟩
  · subst ey
    obtain ⟨z, hd, vs, rel, dd⟩ := dk_rd I.hok e
    refine wpAny_in_of (kV_is ry) hd dd.mapOf ?_
    rw [← (rel.val k).isSome_eq, ← l]
    exact h _ (I.tok _)
  · subst ey
    cases (show u = Value.ref b from ry)
    obtain ⟨z, hd, xs, rel, dd⟩ := dt_rd I.hok e
    refine wpAny_in_heap (tupleKind_room_in1 hu) (key_of I.hok eb) hd dd ?_
    have q := (rel.val k).isSome_eq
    rw [Option.isSome_map] at q
    rw [← q, ← l]
    exact h _ (I.tok _)
theorem d_notIn {Q : Value → Shared → Prop} (hu : A.units + 1 < cLine) (I : Inv X pins σ H s) (g : DGet H a y o) (ry : RelV y u) (h : ∀ s', Inv X pins σ H s' → Q (.bool (!o.isSome)) s') :
    wpAny (model X.prog X.w) A (compareOp .NotIn u (.ref a)) Q E s := by
  rcases g with ⟨kvs, k, e, ey, l⟩ | ⟨kvs, k, b, e, ey, eb, l⟩
  · subst ey
    obtain ⟨z, hd, vs, rel, dd⟩ := dk_rd I.hok e
    refine wpAny_notIn_of (kV_is ry) hd dd.mapOf ?_
    rw [← (rel.val k).isSome_eq, ← l]
    exact h _ (I.tok _)
  · subst ey
    cases (show u = Value.ref b from ry)
    obtain ⟨z, hd, xs, rel, dd⟩ := dt_rd I.hok e
    refine wpAny_notIn_heap (tupleKind_room_in1 hu) (key_of I.hok eb) hd dd ?_
    have q := (rel.val k).isSome_eq
    rw [Option.isSome_map] at q
    rw [← q, ← l]
    exact h _ (I.tok _)
theorem d_write {h' : Heap} {t' : Nat} {ob : HO} (I : Inv X pins σ H s) (mu : Mut (H a)) (hs : Heap.SameBut a s.heap h') (he : ∃ q, h'.get? a = some q) (new : ObjOk X.prog X.w (upd H a ob) h' a ob) :
    Inv X pins σ (upd H a ob) { s with heap := h', toks := t' } :=
  I.write (x := a) (e := a) mu (.inl rfl) (fun b q hb z => (hs.2 b hb).trans z) he new
theorem dk_new {P : Program} {w : World} {H' : Hp} {h' : Heap} {kvs : List (Key × V)} {vs : List (Key × Value)} (z : kvs.length ≤ sizeLine) (hd : (a == sysModules) = false) (rel : KV kvs vs) (dd : h'.DictOf (mixKind P w) a vs) :
    ObjOk P w H' h' a (.dK kvs) := ⟨z, hd, vs, rel, dd⟩
end

section
variable {X : Cx} {pins : List (Addr × Obj)} {σ : St} {H : Hp} {s : Shared} {a : Addr} {kvs : List (Key × V)} {k : Key} {u : Value} {A : Around} {E : Value → Shared → Prop}
end


def NoSl (i : Expr) : Prop := ∀ ov iv, subscripted i false ov iv = operate [ov, iv] (getItem ov iv)
theorem subD_of {prog : Program} {w : World} {A : Around} {E : Value → Shared → Prop} {s : Shared} {env : Env} {value slice : Expr} {pos : Pos} {T id : String} {Q : Value → Shared → Prop}
    (hl : typeLookup (.type T) "__getitem__" = pure (some (.builtin id))) (hs : NoSl slice)
    (h : wpAny (model prog w) A (eval value env) (fun o s₁ => wpAny (model prog w) A (eval slice env) (fun i s₂ => s₂.TypeIs o T ∧ wpAny (model prog w) A (getItem o i) Q E s₂) E s₁) E s) :
    wpAny (model prog w) A (eval (.Subscript value slice pos) env) Q E s := by
  refine Subscript_ (wpAny_mono h (fun o s₁ h₁ => wpAny_mono h₁ (fun i s₂ h₂ => ?_) fun _ _ x => x) fun _ _ x => x)
  obtain ⟨hT, h₂⟩ := h₂
  unfold subscriptTail
  refine wpAny_bind ?_
  rw [getitemInPython_of_ne hT.not_modules]
  refine wpAny_bind (wpAny_specialOf hT hl ?_)
  have fin : wpAny (model prog w) A (subscripted slice false o i) (fun r s₃ => wpAny (model prog w) A (letTemporaryGo value o r >>= fun _ => pure r) Q E s₃) E s₂ := by
    rw [hs o i]
    exact wpAny_operating (wpAny_mono h₂ (fun r s₃ h₃ => wpAny_bind (wpAny_letTemporaryGo (wpAny_pure h₃))) fun _ _ x => x)
  first
    | exact wpAny_pure (wpAny_bind fin)
    | exact wpAny_bind (wpAny_pure (wpAny_bind fin))
    | exact wpAny_bind fin

theorem dict_typeIs {X : Cx} {pins : List (Addr × Obj)} {σ : St} {H : Hp} {s : Shared} {a : Addr} {y : V} {o : Option V} (I : Inv X pins σ H s) (g : DGet H a y o) : s.TypeIs (.ref a) "dict" := by
  rcases g with ⟨kvs, k, e, _, _⟩ | ⟨kvs, k, b, e, _, _, _⟩
  · obtain ⟨_, _, vs, _, dd⟩ := dk_rd I.hok e
    exact dd.typeIs
  · obtain ⟨_, _, xs, _, dd⟩ := dt_rd I.hok e
    exact dd.typeIs
def tDGet (td ty : TE) : TE := fun σ H Q => td σ H fun x H1 => ty σ H1 fun y H2 => ∃ a v, x = .ref a ∧ DGet H2 a y (some v) ∧ Q v H2
section
variable {X : Cx} {o i e value : Expr} {pos pos' tpos : Pos} {td ty tv : TE}
theorem pe_dget (hu : X.A.units + 1 < cLine) (ho : PE X o td) (hi : PE X i ty) (hs : NoSl i) : PE X (.Subscript o i pos) (tDGet td ty) := by
  intro pins s σ H Q I h
  refine subD_of PySem.F.slot_dict_getitem.lookup hs (thn (ho pins s σ H _ I h) fun u s1 ⟨x, H1, I1, rx, q1⟩ => thn (hi pins s1 σ H1 _ I1 q1) fun iv s2 ⟨y, H2, I2, ry, a, v, ex, g, q2⟩ => ?_)
  subst ex
  obtain rfl : u = Value.ref a := rx
  exact ⟨dict_typeIs I2 g, d_getItem hu I2 g ry fun w' s3 I3 rw' => ⟨v, H2, I3, rw', q2⟩⟩
end


theorem dk_empty {P : Program} {w : World} {H : Hp} (h : Heap) (hb : sysModules < h.objs.size) : ObjOk P w H (h.push { cls := .type "dict", data := .dict #[] }) h.objs.size (.dK []) :=
  ⟨Nat.zero_le _, beq_eq_false_iff_ne.mpr (Ne.symm (Nat.ne_of_lt hb)), [], .nil, Heap.DictOf.new h⟩
def tDNewK : TE := fun _ H Q => ∀ p, H p = none → Q (.ref p) (upd H p (.dK []))
section
variable {X : Cx} {pos : Pos}
theorem pe_dnewK : PE X (.Dict [] [] pos) tDNewK := fun pins s σ H Q I h =>
  wpAny_Dict_empty ⟨.ref s.heap.objs.size, _, I.laid (a := s.heap.objs.size) (o := .dK []) (t' := s.toks) (fun _ _ q => Heap.get?_push_of_some _ q) (Nat.le_refl _) (dk_empty s.heap I.big), rfl, h _ (I.hok.fresh (Nat.le_refl _))⟩
end

def tPairs : List (TE × TE) → St → Hp → (List (V × V) → Hp → Prop) → Prop
  | [], _, H, Q => Q [] H
  | (tk, tv) :: r, σ, H, Q => tk σ H fun x H1 => tv σ H1 fun y H2 => tPairs r σ H2 fun ps H3 => Q ((x, y) :: ps) H3
abbrev VV : List (V × V) → List (Value × Value) → Prop := Paired fun p q => RelV p.1 q.1 ∧ RelV p.2 q.2
def PPs (X : Cx) (pos : Pos) (keys : List (Option Expr)) (values : List Expr) (trs : List (TE × TE)) : Prop :=
  ∀ (pins : List (Addr × Obj)) (s : Shared) (σ : St) (H : Hp) (Q : List (V × V) → Hp → Prop), Inv X pins σ H s → tPairs trs σ H Q →
    wpAny (model X.prog X.w) X.A (evalPairs (pairTrees keys values X.env pos)) (fun vs s' => ∃ ps H', Inv X pins σ H' s' ∧ VV ps vs ∧ Q ps H') X.xe s
theorem pps_nil {X : Cx} {pos : Pos} : PPs X pos [] [] [] := fun pins s σ H Q I h => pairTrees_nil_walk ⟨[], H, I, .nil, h⟩
theorem pps_cons {X : Cx} {pos : Pos} {k v : Expr} {ks : List (Option Expr)} {vs : List Expr} {tk tv : TE} {trs : List (TE × TE)} (hk : PE X k tk) (hv : PE X v tv) (hr : PPs X pos ks vs trs) :
    PPs X pos (some k :: ks) (v :: vs) ((tk, tv) :: trs) := fun pins s σ H Q I h =>
  pairTrees_cons_walk (thn (hk pins s σ H _ I h) fun u s1 ⟨x, H1, I1, rx, q1⟩ => thn (hv pins s1 σ H1 _ I1 q1) fun w2 s2 ⟨y, H2, I2, ry, q2⟩ =>
    thn (hr pins s2 σ H2 _ I2 q2) fun ws s3 ⟨ps, H3, I3, rel, q3⟩ => ⟨(x, y) :: ps, H3, I3, .cons ⟨rx, ry⟩ rel, q3⟩)

def mergeK (kvs more : List (Key × V)) : List (Key × V) := more.foldl (fun acc kv => putK acc kv.1 kv.2) kvs
theorem KV.merge : ∀ {more : List (Key × V)} {rs : List (Key × Value)} {kvs : List (Key × V)} {vs : List (Key × Value)}, KV more rs → KV kvs vs → KV (mergeK kvs more) (merged vs rs) := by
  intro more rs kvs vs r
  unfold KV at r
  induction r generalizing kvs vs with
  | nil => intro q; exact q
  | @cons p q ps qs h t ih =>
    intro r0
    have e : KV (putK kvs p.1 p.2) (stored vs q.1 q.2) := by
      have := r0.put p.1 h.2
      rw [← h.1]; exact this
    exact ih e
theorem length_mergeK : ∀ (more kvs : List (Key × V)), (mergeK kvs more).length ≤ kvs.length + more.length
  | [], kvs => by show kvs.length ≤ kvs.length + 0; omega
  | p :: r, kvs => by
    have h1 := length_mergeK r (putK kvs p.1 p.2)
    have h2 := length_putK kvs p.1 p.2
    show (mergeK (putK kvs p.1 p.2) r).length ≤ _
    rw [List.length_cons]; omega
theorem carries_of {P : Program} {w : World} : ∀ {kvs : List (Key × V)} {ws : List (Value × Value)}, VV (kvs.map fun kv => (kV kv.1, kv.2)) ws → ∃ rs, Carries (mixKind P w) ws rs ∧ KV kvs rs
  | [], _, r => by rw [List.map_nil] at r; cases r; exact ⟨[], True.intro, .nil⟩
  | p :: kvs, _, r => by
    rw [List.map_cons] at r
    cases r with
    | @cons a b as bs h t =>
      obtain ⟨rs, c, q⟩ := carries_of (P := P) (w := w) t
      obtain ⟨b1, b2⟩ := b
      exact ⟨(p.1, b2) :: rs, ⟨kV_is h.1, rfl, c⟩, .cons ⟨rfl, h.2⟩ q⟩
structure M1 (X : Cx) (o : Expr) (m : Str) (apos : Pos) (e : Expr) (cpos : Pos) : Prop where
  base : attributeBase o m X.env (eval o X.env) = eval o X.env
  few : ((backTo cpos (starEach [e] X.env)).all (fun x => !x.1) && (backToKw cpos (keywordEach [] X.env)).all (fun x => x.1.isSome)
    && decide (([e] : List Expr).length + ([] : List Keyword).length + (if ([] : List Keyword).isEmpty then 0 else 1) < 30)) = true
  line : (apos.endLine == cpos.line) = true
  trees : backTo cpos (starEach [e] X.env) = [(false, eval e X.env)]
def IsD (H : Hp) (a : Addr) : Prop := (∃ kvs, Rd H a (.dK kvs)) ∨ ∃ kvs, Rd H a (.dT kvs)
theorem isD_at {X : Cx} {pins : List (Addr × Obj)} {σ : St} {H : Hp} {s : Shared} {a : Addr} (I : Inv X pins σ H s) (d : IsD H a) :
    s.TypeIs (.ref a) "dict" ∧ (∀ b, Value.ref a = .ref b → ∃ ob, s.heap.get? b = some ob ∧ ob.dict = none) ∧ (a == sysModules) = false := by
  rcases d with ⟨kvs, e⟩ | ⟨kvs, e⟩
  · obtain ⟨_, hd, vs, _, dd⟩ := dk_rd I.hok e
    refine ⟨dd.typeIs, fun b q => ?_, hd⟩
    cases q
    obtain ⟨ob, _, _, h1, h2, _⟩ := dd
    exact ⟨ob, h1, h2.2.1⟩
  · obtain ⟨_, hd, xs, _, dd⟩ := dt_rd I.hok e
    refine ⟨dd.typeIs, fun b q => ?_, hd⟩
    cases q
    obtain ⟨ob, _, _, h1, h2, _⟩ := dd
    exact ⟨ob, h1, h2.2.1⟩

section
variable {X : Cx} {pins : List (Addr × Obj)} {σ : St} {H : Hp} {s : Shared} {a : Addr} {y d : V} {u r : Value} {o : Option V} {A : Around} {E : Value → Shared → Prop}
theorem d_get1 {Q : Value → Shared → Prop} (hu : A.units + 1 < cLine) (I : Inv X pins σ H s) (g : DGet H a y o) (ry : RelV y u) (h : ∀ w' s', Inv X pins σ H s' → RelV (o.getD .non) w' → Q w' s') :
    wpAny (model X.prog X.w) A (call (.builtin "dict.get") [.ref a, u]) Q E s := by
  rcases g with ⟨kvs, k, e, ey, l⟩ | ⟨kvs, k, b, e, ey, eb, l⟩
  · subst ey
    obtain ⟨z, hd, vs, rel, dd⟩ := dk_rd I.hok e
    refine call_meetsIn PySem.F.slot_dict_get dd.typeIs PySem.F.entry_dict_get (PySem.F.args_dict_get_2 _ _) (meets_dict_get (mixKind X.prog X.w) a (kV_is ry) hd) ⟨_, dd.mapOf, h _ _ (I.tok _) ?_⟩
    rw [l]
    exact (rel.val k).getD rfl
  · subst ey
    cases (show u = Value.ref b from ry)
    obtain ⟨z, hd, xs, rel, dd⟩ := dt_rd I.hok e
    refine call_meetsIn PySem.F.slot_dict_get dd.typeIs PySem.F.entry_dict_get (PySem.F.args_dict_get_2 _ _) (meetsH_dict_get (tupleKind (mixKind X.prog X.w)) a b hd) ⟨tupleKind_room_in1 hu, k, xs, key_of I.hok eb, dd, h _ _ (I.tok _) ?_⟩
    rw [l]
    exact (rel.val k).getD rfl
end

def tDGet1 (td ty : TE) : TE := fun σ H Q => td σ H fun x H1 => ∃ a, x = .ref a ∧ IsD H1 a ∧ ty σ H1 fun y H2 => ∃ o, DGet H2 a y o ∧ Q (o.getD .non) H2
section
variable {X : Cx} {o e f : Expr} {apos cpos : Pos} {td ty tx : TE}
theorem pe_dget1 (hu : X.A.units + 1 < cLine) (ho : PE X o td) (he : PE X e ty) (m : M1 X o "get" apos e cpos) : PE X (.Call (.Attribute o "get" apos) [e] [] cpos) (tDGet1 td ty) := by
  intro pins s σ H Q I h
  refine wpAny_Call_method m.base m.few m.line PySem.F.plainAttrs_dict PySem.F.slot_dict_get PySem.F.type_dict_get (thn (ho pins s σ H _ I h) fun u s1 ⟨x, H1, I1, rx, a, ex, d, q1⟩ => ?_)
  subst ex
  obtain rfl : u = Value.ref a := rx
  obtain ⟨t1, t2, _⟩ := isD_at I1 d
  refine ⟨t1, t2, ?_⟩
  rw [m.trees]
  refine Calls.callWith_builtin rfl (Calls.evalArgs_plain (Calls.spliced_cons (thn (he pins s1 σ H1 _ I1 q1) fun iv s2 ⟨y, H2, I2, ry, ov, g, q2⟩ => Calls.spliced_nil ?_)))
  exact d_get1 hu I2 g ry fun w' s3 I3 rw' => ⟨_, H2, I3, rw', q2⟩
end

section
variable {X : Cx} {pins : List (Addr × Obj)} {σ : St} {H : Hp} {s : Shared} {a : Addr} {kvs : List (Key × V)} {A : Around} {E : Value → Shared → Prop}
end


section
variable {X : Cx} {pins : List (Addr × Obj)} {σ : St} {H : Hp} {s : Shared} {a : Addr} {y : V} {u : Value} {A : Around} {E : Value → Shared → Prop}
end
end L2


namespace Att
open PySem PySem.W PySem.Calls PyProof.Rows

theorem ints_of_wellAll {P : Params} {h : Heap} : ∀ (ns : List Int) (vs : List Value), WellAll P h vs (ns.map WData.int) → IntsAre vs ns := by
  intro ns
  induction ns with
  | nil =>
    intro vs w
    rw [List.map_nil] at w
    cases w
    exact .nil
  | cons n ns ih =>
    intro vs w
    rw [List.map_cons] at w
    cases w with
    | cons a b =>
      cases a
      exact .cons _ _ (ih _ b)

theorem script_of {l : OpenLaw} {n : Nat} (hn : l.most = some n) {P : Params} {h : Heap} {args : List WData} {vals : List Value}
    (hpre : l.row.toRowW.claim.pre args = true) (hwl : WellAll P h vals args) :
    ∃ a vs ns, vals = [Value.ref a] ∧ args = [WData.list (ns.map WData.int)] ∧ h.get? a = some { cls := .type "list", data := .seq vs.toArray } ∧ IntsAre vs ns ∧ ns.length ≤ n := by
  have hsh : WShape.hasAll [] args [.list .int] = true := (pre_splitW hpre).1
  have hc : l.pre.holds [] { args := args } = true := (pre_splitW hpre).2
  obtain ⟨d, r, rfl, h1, h2⟩ := hasAllW_cons hsh
  obtain rfl := hasAllW_nil h2
  obtain ⟨xs, rfl, h3⟩ := hasW_list h1
  obtain ⟨ns, rfl⟩ := items_int h3
  have hlen : ns.length ≤ n := by
    unfold OpenLaw.pre at hc
    have h4 : (WTm.not (.lt (.lit (.int (n : Int))) (.len (.arg 0)))).holds [] { args := [.list (ns.map .int)] } = true := by
      have h4 := (holds_andW hc).1
      rw [hn] at h4
      exact h4
    have h5 := condW_of h4 (w_not (w_lt w_lit (w_len_list (w_arg rfl))))
    rw [List.length_map] at h5
    refine Nat.le_of_not_lt fun q => ?_
    have q' : (n : Int) < ((ns.length : Nat) : Int) := by omega
    first
      | (rw [decide_eq_true q'] at h5; exact absurd h5 (by decide))
      | (simp at h5; omega)
  cases hwl with
  | cons w1 w2 =>
    cases w2
    cases w1 with
    | list ho hall => exact ⟨_, _, ns, rfl, rfl, ho, ints_of_wellAll ns _ hall, hlen⟩

theorem post_true (l : OpenLaw) (args : List WData) : l.row.toRowW.claim.post args (.bool true) args = true :=
  postW_of (r := l.row.toRowW) (X := (true == true))
    (show WShape.has [] (.bool true) .bool = true by first | rfl | decide | simp [WShape.has, WShape.arms, WShape.armsAll])
    (show (WTm.eq .res (.lit (.bool true))).value [] { args := args, res := some (.bool true), after := args } = some (.bool (true == true)) from w_eq_bool (w_res rfl) w_lit) rfl

theorem attach_call {l : OpenLaw} {n : Nat} {q : Program} {loose : List Str} {XP : (Str → Option Value) → Heap → Prop} {YP : World → Heap → Prop} {d : DefRec}
    (hn : l.most = some n) (hdf : d.params.defaults = [])
    (call : ∀ (w : World) (s₀ s₁ : Shared) (mg mb : Str → Option Value) (fa : Addr) (o : Obj) (pm cd doc : Value) (a : Addr) (vs : List Value) (ns : List Int),
      Ground q loose [] XP w s₀ mg mb s₁.heap → YP w s₁.heap →
      s₁.heap.get? fa = some o → o.data = .func (docDef d.name d.params d.body d.scope pm cd doc) → s₁.heap.CodeRec cd d.name → mg d.name = some (.ref fa) →
      s₁.heap.get? a = some { cls := .type "list", data := .seq vs.toArray } → IntsAre vs ns → ns.length ≤ n → s₁.gens = #[] →
      codeAny (model l.prog w) callerA (.call (.ref fa) ⟨[.ref a], []⟩) (fun r s' => r = .ok (.ret (.bool true)) ∧ OldK s₁.heap s'.heap ∧ s'.os = s₁.os ∧ AllBare s'.gens) s₁) :
    WalkO q loose XP YP l.row.toRowW d [] (fun f vs => PySem.call f vs) := by
  intro w s₀ s₁ mg mb G Y fa o pm cd doc dV kV ho hd hcd hD hmg hg args vals as hpre hlay hrd hwl hlo
  obtain rfl : dV = .none := Dflts.none hD hdf
  obtain rfl : kV = .none := Dflts.noKw hD
  obtain ⟨a, vs, ns, rfl, rfl, hobj, hints, hlen⟩ := script_of hn hpre hwl
  refine enter_call (codeAny_mono (call w s₀ s₁ mg mb fa o pm cd doc a vs ns G Y ho (fd_plain hd) hcd hmg hobj hints hlen hg) fun r s' hq => ?_)
  obtain ⟨rfl, h2, h3, h4⟩ := hq
  exact ⟨.inl ⟨.bool true, .bool true, [], rfl, fun _ => rfl, .bool true, post_true l _, fun _ => ⟨List.Pairwise.nil, fun _ hm => (nomatch hm)⟩⟩, h2, h3, h4⟩

section
variable {prog : Program} {w : World} {A : Around} {E : Value → Shared → Prop} {s : Shared} {K : Frag}

def ledger (h : Heap) (L d : Addr) : List (Addr × Obj) := (List.range h.objs.size).filterMap fun a => if a = L ∨ a = d then none else (h.get? a).map fun o => (a, o)
end
end Att

namespace L2
open PySem PySem.Spec PyProof.Rows

theorem vals_ints : ∀ {vs : List Value} {ns : List Int}, IntsAre vs ns → Vals (ns.map V.int) vs
  | _, _, .nil => .nil
  | _, _, .cons n t h => .cons ⟨t, rfl⟩ (vals_ints h)

def Only (H : Hp) : Prop := ∀ b, H b = none ∨ ∃ o xs, H b = some (.frz o (.lst xs))

theorem law_call {P : Program} {w : World} {K : PySem.W.Frag} {mg mb : Str → Option Value} {CX : CXT} {k : Nat} {fa a : Addr} {fd : FuncData} {x : Str} {sp : Sp} {s₁ : Shared} {vs : List Value} {ns : List Int}
    (KX : K.In s₁.heap) (hns : s₁.heap.Ns mainGlobals mg) (hb : s₁.heap.Ns builtinsNs mb) (hbb : ∀ x : Str, x ≠ "__name__" → mb x = bootBuiltins x) (hlim : s₁.heap.NoLimit) (hg : s₁.gens = #[])
    (ha : s₁.heap.get? a = some { cls := .type "list", data := .seq vs.toArray }) (hi : IntsAre vs ns) (hl : ns.length ≤ sizeLine) (hr : Room k callerA)
    (F : ∀ base : Heap, K.In base → base.Ns mainGlobals mg → FnOk P w K mg base CX k fa fd [x] sp) (hbind : ∀ (s : Shared) (u : Value), BindsTo s fd ⟨[u], []⟩ [(x, u)])
    (hsp : ∀ H : Hp, Only H → SqL K H a (ns.map V.int) → sp [.ref a] H (fun v _ => v = .bl true) fun _ _ _ => False)
    (hCX : ∀ H e s', CX [] H s₁ (fun _ _ _ => False) e s' → False) :
    codeAny (model P w) callerA (.call (.ref fa) ⟨[.ref a], []⟩) (fun r s' => r = .ok (.ret (.bool true)) ∧ OldK s₁.heap s'.heap ∧ s'.os = s₁.os ∧ AllBare s'.gens) s₁ := by
  have rv := vals_ints hi
  have lenV := hi.length
  -- from an abstract heap in which nothing but the script may be tracked
  have core : ∀ H : Hp, Only H → SqL K H a (ns.map V.int) → HOk P w H s₁.heap → (∀ b, H b ≠ none → b = a) → (H a ≠ none → K.lookup a = none) →
      codeAny (model P w) callerA (.call (.ref fa) ⟨[.ref a], []⟩) (fun r s' => r = .ok (.ret (.bool true)) ∧ OldK s₁.heap s'.heap ∧ s'.os = s₁.os ∧ AllBare s'.gens) s₁ := by
    intro H hO hS hok hA hK
    have base_of : ∀ {b : Addr} {o : Obj}, s₁.heap.get? b = some o → H b = none → (hidT s₁.heap H).get? b = some o := fun e n => hidT_get e n
    have noA : ∀ {b : Addr} {o : Obj} {es : Array DictEntry} {ep : Nat}, s₁.heap.get? b = some o → o.data = .dict es ep → H b = none := fun {b o es ep} e d => by
      cases q : H b with
      | none => rfl
      | some u =>
        have e' : b = a := hA b (by rw [q]; simp)
        subst e'
        rw [ha] at e; cases e
        have d' : Data.seq vs.toArray _ = Data.dict es ep := d
        cases d'
    have nsK : ∀ {b : Addr} {m : Str → Option Value}, s₁.heap.Ns b m → (hidT s₁.heap H).Ns b m := fun {b m} ⟨o, es, ep, e, d, r⟩ => ⟨o, es, ep, base_of e (noA e d), d, r⟩
    have hKb : K.In (hidT s₁.heap H) := fun b o e => base_of (KX b o e) (by
      cases q : H b with
      | none => rfl
      | some u =>
        have e' : b = a := hA b (by rw [q]; simp)
        subst e'
        rw [hK (by rw [q]; simp)] at e; cases e)
    have hM : Mod K mg (hidT s₁.heap H) := ⟨hKb, nsK hns, ⟨mb, nsK hb, hbb⟩, let ⟨mc, h1, h2⟩ := hlim; ⟨mc, nsK h1, h2⟩⟩
    have e0 : Env0 P w K mg (hidT s₁.heap H) callerA [] s₁ H := ⟨rfl, hM, fun b o e => of_hidT e, Nat.le_of_eq (hidT_size _ _), trivial, fun b hb => absurd (show b ∈ ([] : List Addr) from hb) (by simp), hok, .of_eq hg⟩
    refine codeAny_mono ((F _ hKb (nsK hns)).run callerA [] s₁ H ⟨[.ref a], []⟩ [.ref a] [.ref a] _ _ hr e0 (hbind s₁ (.ref a)) (.cons rfl .nil) (hsp H hO hS)) fun r s' h => ?_
    cases r with
    | error e => exact (hCX H e s' h).elim
    | ok fl =>
      cases fl with
      | next => exact False.elim h
      | brk => exact False.elim h
      | cont => exact False.elim h
      | ret u =>
        obtain ⟨v, H', os, bare, un, hok', r', q⟩ := h
        have q' : v = .bl true := q
        subst q'
        obtain rfl : u = Value.bool true := r'
        refine ⟨rfl, OldK.of_keep fun b o e => ?_, os, bare⟩
        cases q : H b with
        | none => exact un.keep b o e q (by intro z; exact absurd (show b ∈ ([] : List Addr) from z) (by simp)) (by simp)
        | some u =>
          rcases hO b with z | ⟨ob, xs, z⟩
          · rw [q] at z; cases z
          · have z2 := un.frzs b ob _ z
            obtain ⟨e1, _⟩ := hok b _ z
            obtain ⟨e2, _⟩ := hok' b _ z2
            rw [e] at e1; cases e1
            exact e2
  cases hk : K.lookup a with
  | some o =>
    -- the script is one of the module's own objects
    have e := KX a o hk
    rw [ha] at e
    cases e
    refine core (fun _ => none) (fun _ => .inl rfl) (.inr ⟨_, vs.toArray, _, hk, rfl, rfl, rfl, by rw [List.size_toArray, lenV]; exact hl, by simpa using rv⟩) (fun b u z => by have z' : (none : Option HO) = some u := z; cases z') (fun b z => absurd rfl z) fun z => absurd rfl z
  | none =>
    refine core (fun b => if b = a then some (.frz { cls := .type "list", data := .seq vs.toArray } (.lst (ns.map V.int))) else none) (fun b => ?_) (.inl (.inr ⟨{ cls := .type "list", data := .seq vs.toArray }, if_pos rfl⟩)) (fun b u z => ?_) (fun b z => ?_) fun _ => hk
    · by_cases hb : b = a
      · exact .inr ⟨_, _, if_pos hb⟩
      · exact .inl (if_neg hb)
    · by_cases hb : b = a
      · have z' := (if_pos hb).symm.trans z
        cases z'
        subst hb
        exact ⟨ha, by rw [List.length_map]; exact hl, vs, _, rv, ha⟩
      · have z' := (if_neg hb).symm.trans z
        cases z'
    · by_cases hb : b = a
      · exact hb
      · exact absurd (if_neg hb) z
end L2

namespace L2
open PySem PySem.Spec PyProof.Rows

theorem walk_of {l : PySem.W.OpenLaw} {n k : Nat} {q : Program} {loose : List Str} {XP : (Str → Option Value) → Heap → Prop} {YP : World → Heap → Prop} {d : DefRec} {K : Params → PySem.W.Frag} {CX : World → CXT} {sp : World → Sp} {x : Str}
    (hn : l.most = some n) (hn2 : n ≤ sizeLine) (hdf : d.params.defaults = []) (hr : Room k callerA)
    (hY : ∀ (w : World) (h : Heap), YP w h → (K w.params).In h)
    (F : ∀ (w : World) (mg : Str → Option Value) (fa : Addr) (h : Heap), (K w.params).In h → h.Ns mainGlobals mg → mg d.name = some (.ref fa) →
      ∃ fd : FuncData, (∀ (s : Shared) (u : Value), BindsTo s fd ⟨[u], []⟩ [(x, u)]) ∧
        ∀ base : Heap, (K w.params).In base → base.Ns mainGlobals mg → FnOk l.prog w (K w.params) mg base (CX w) k fa fd [x] (sp w))
    (hsp : ∀ (w : World) (H : Hp) (a : Addr) (ns : List Int), ns.length ≤ n → Only H → SqL (K w.params) H a (ns.map V.int) → sp w [.ref a] H (fun v _ => v = .bl true) fun _ _ _ => False)
    (hCX : ∀ (w : World) (H : Hp) (s : Shared) (e : Value) (s' : Shared), CX w [] H s (fun _ _ _ => False) e s' → False) :
    PySem.W.WalkO q loose XP YP l.row.toRowW d [] (fun f vs => PySem.call f vs) := by
  refine Att.attach_call hn hdf fun w s₀ s₁ mg mb fa o pm cd doc a vs ns G Y ho hd hcd hmg hobj hints hlen hg => ?_
  have KX := hY w _ Y
  obtain ⟨fd, hb, hF⟩ := F w mg fa _ KX G.T.g hmg
  exact law_call KX G.T.g G.T.b G.T.builtins G.T.nolimit hg hobj hints (Nat.le_trans hlen hn2) hr hF hb (fun H hO hS => hsp w H a ns hlen hO hS) fun H e s' => hCX w H s₁ e s'
end L2

namespace L2
open PySem PySem.Spec PyProof.Rows

def defArgs (s : Stmt) : Arguments := match s with
  | .FunctionDef _ a _ _ _ _ _ _ _ _ => a
  | _ => { posonlyargs := [], args := [], vararg := none, kwonlyargs := [], kw_defaults := [], kwarg := none, defaults := [] }
def defBody (s : Stmt) : List Stmt := match s with
  | .FunctionDef _ _ b _ _ _ _ _ _ _ => b
  | _ => []
def defScope (s : Stmt) : Scope := match s with
  | .FunctionDef _ _ _ _ _ _ sc _ _ _ => sc
  | _ => { kind := .function, names := [], isGenerator := false, isCoroutine := false }

abbrev CX0 : CXT := fun _ _ _ _ _ _ => False
abbrev E0 : St → XK := fun _ _ _ _ => False
structure Fun (K : PySem.W.Frag) (x qual : Str) (st : Stmt) (f : Addr) (fd : FuncData) : Prop where
  ex : ∃ (oc : Value) (od : Option Addr) (kV doc pm : Value) (an : Option Addr) (cdv ct : Value) (osl : Array (Option Value)),
    fd = PySem.W.fnOf x qual (defArgs st) (defBody st) (defScope st) .none kV doc pm an cdv ct ∧ K.lookup f = some ⟨oc, od, .func fd, osl⟩ ∧ PySem.W.codeIn K cdv qual = true
  kp : PySem.W.keepIn K (.ref f) = true
section
variable {P : Program} {w : World} {K : PySem.W.Frag} {mg : Str → Option Value} {base : Heap}
theorem Fun.ok {x qual : Str} {st : Stmt} {f : Addr} {fd : FuncData} {N ps : List Str} {k : Nat} {sp : Sp} (F : Fun K x qual st f fd) (S : FnScope N ps (defScope st)) (len : ∀ vs H Q E, sp vs H Q E → vs.length = ps.length)
    (hbody : ∀ (cdv : Value) (A : Around) (outer : List Env) (s : Shared) (H : Hp) (vs : List V) (Q : VK) (E : XK), Room k (A.deeper (envOfC qual (defScope st) s.heap.objs.size f cdv)) → sp vs H Q E →
      ∃ t, PSs (cxOf CX0 P w K mg base N qual (defScope st) f cdv A outer s H E).nox (defBody st) t ∧ t { nx := fun _ H' => Q .non H', rt := Q } (start N vs) H) : FnOk P w K mg base CX0 (k + 1) f fd ps sp := by
  obtain ⟨oc, od, kV, doc, pm, an, cdv, ct, osl, rfl, lk, hcd⟩ := F.ex
  refine fn_of lk hcd S len fun A outer s H vs Q E hr hsp => ?_
  obtain ⟨t, h, q⟩ := hbody cdv A outer s H vs Q E hr hsp
  exact ⟨t, h.nox, q⟩
theorem Fun.binds {x qual : Str} {st : Stmt} {f : Addr} {fd : FuncData} {ps : List Str} (F : Fun K x qual st f fd)
    (h : ∀ (kV doc pm : Value) (an : Option Addr) (cdv ct : Value) (us : List Value), us.length = ps.length → bindArgs (PySem.W.fnOf x qual (defArgs st) (defBody st) (defScope st) .none kV doc pm an cdv ct) ⟨us, []⟩ = pure (ps.zip us)) : Binds K fd ps [] := by
  obtain ⟨oc, od, kV, doc, pm, an, cdv, ct, osl, rfl, lk, hcd⟩ := F.ex
  exact .all (h kV doc pm an cdv ct)
theorem fun_mk {x qual : Str} {st : Stmt} {f : Addr} {oc : Value} {od an : Option Addr} {osl : Array (Option Value)} {kV doc pm cdv ct : Value} (l : K.lookup f = some ⟨oc, od, .func (PySem.W.fnOf x qual (defArgs st) (defBody st) (defScope st) .none kV doc pm an cdv ct), osl⟩)
    (c : PySem.W.codeIn K cdv qual = true) (k : PySem.W.keepIn K (.ref f) = true) : Fun K x qual st f (PySem.W.fnOf x qual (defArgs st) (defBody st) (defScope st) .none kV doc pm an cdv ct) := ⟨⟨oc, od, kV, doc, pm, an, cdv, ct, osl, rfl, l, c⟩, k⟩
end
theorem hu_of {A : Around} {k : Nat} (hr : Room k A) : A.units + 1 < cLine := Nat.lt_of_le_of_lt (Nat.add_le_add_left (by decide : 1 ≤ 64) _) hr.units
section
variable {X : Cx}
theorem pv (i : Nat) {x : Str} {pos : Pos} (hN : X.N[i]? = some x := by rfl) (hv : Vis X.env.scope x := by first | exact Or.inl rfl | exact Or.inr (Or.inl rfl) | exact Or.inr (Or.inr rfl)) (hd : (x == ("__debug__" : Str)) = false := by decide)
    (hcd : (x == ("__classdict__" : Str)) = false := by decide) : PE X (.Name x pos) (tVar i) := pe_var hN hv hd hcd
end

def Same (H H' : Hp) : Prop := ∀ b o, H b = some o → H' b = some o
theorem Same.refl (H : Hp) : Same H H := fun _ _ h => h
theorem Same.trans {H H1 H2 : Hp} (a : Same H H1) (b : Same H1 H2) : Same H H2 := fun c o h => b c o (a c o h)
theorem Same.free {H H' : Hp} (e : Same H H') {l : Addr} (h : H' l = Option.none) : H l = Option.none := by
  cases q : H l with
  | none => rfl
  | some o =>
    rw [e l o q] at h
    cases h
theorem Same.seq {K : PySem.W.Frag} {H H' : Hp} {a : Addr} {xs : List V} (e : Same H H') (h : SqL K H a xs) : SqL K H' a xs := by
  rcases h with (h | ⟨o, h⟩) | h
  · exact .inl (.inl (e _ _ h))
  · exact .inl (.inr ⟨o, e _ _ h⟩)
  · exact .inr h

end L2

namespace L2
open PySem PySem.Spec PyProof.Rows
section
variable {κ : Type} [DecidableEq κ]
theorem valV_not {kvs : List (κ × V)} {k : κ} (h : valV kvs k = none) : ¬ k ∈ kvs.map (·.1) := by
  intro m
  obtain ⟨p, hp, e⟩ := List.mem_map.mp m
  have q : (kvs.any fun kv => decide (kv.1 = k)) = true := List.any_eq_true.mpr ⟨p, hp, decide_eq_true e⟩
  rw [valV_any, h] at q
  exact absurd q (by simp)
theorem nd_snoc : ∀ {l : List κ} {k : κ}, l.Nodup → ¬ k ∈ l → (l ++ [k]).Nodup
  | [], k, _, _ => by simp
  | a :: r, k, h, hk => by
    obtain ⟨h1, h2⟩ := List.nodup_cons.mp h
    show (a :: (r ++ [k])).Nodup
    refine List.nodup_cons.mpr ⟨fun m => ?_, nd_snoc h2 fun m => hk (List.mem_cons.mpr (Or.inr m))⟩
    rcases List.mem_append.mp m with q | q
    · exact h1 q
    · exact hk (List.mem_cons.mpr (Or.inl (List.mem_singleton.mp q).symm))
theorem nd_putK {kvs : List (κ × V)} {k : κ} (v : V) (hn : (kvs.map (·.1)).Nodup) (h : valV kvs k = none) : ((putK kvs k v).map (·.1)).Nodup := by
  rw [putK_new v h, List.map_append]
  exact nd_snoc hn (valV_not h)
end
end L2
namespace L2
open PySem PySem.Spec PyProof.Rows
structure RoomN (k : Nat) (A : Around) : Prop where
  dp : A.depth + 3 * k + 5 < recursionLimit
  un : A.units + 16 * k + 200 < cLine
theorem RoomN.mono {j k : Nat} {A : Around} (r : RoomN k A) (h : j ≤ k) : RoomN j A := ⟨by have := r.dp; omega, by have := r.un; omega⟩
theorem RoomN.deeper {k : Nat} {A : Around} (r : RoomN (k + 1) A) (env : Env) : RoomN k (A.deeper env) := ⟨by have := r.dp; show A.depth + 1 + 3 * k + 5 < _; omega, by have := r.un; show A.units + 3 + 16 * k + 200 < _; omega⟩
theorem RoomN.depth {k : Nat} {A : Around} (r : RoomN k A) : A.depth < recursionLimit := by have := r.dp; omega
theorem RoomN.units0 {k : Nat} {A : Around} (r : RoomN k A) : A.units < cLine := by have := r.un; omega
theorem Room.n {k : Nat} {A : Around} (r : Room k A) : RoomN k A := ⟨r.dp, r.un⟩
structure FnOkN (P : Program) (w : World) (K : PySem.W.Frag) (mg : Str → Option Value) (base : Heap) (CX : CXT) (k : Nat) (f : Addr) (fd : FuncData) (ps : List Str) (sp : Sp) : Prop where
  len : ∀ vs H Q E, sp vs H Q E → vs.length = ps.length
  run : ∀ (A : Around) (outer : List Env) (s : Shared) (H : Hp) (args : Args) (us : List Value) (vs : List V) (Q : VK) (E : XK), RoomN k A → Env0 P w K mg base A outer s H → BindsTo s fd args (ps.zip us) → Vals vs us → sp vs H Q E →
    codeAny (model P w) A (.call (.ref f) args) (CR CX outer P w H s Q E) s
section
variable {X : Cx} {CX : CXT} {k : Nat} {f C : Addr} {fd : FuncData} {ps : List Str} {sp : Sp} {dvs : List V} {ds : List Value} {E : St → XK} {x m : Str} {p pos apos : Pos} {e o : Expr} {es : List Expr} {ta : TE} {t : TA}
end
end L2
set_option Elab.async false
set_option linter.all false
set_option maxRecDepth 100000
set_option maxHeartbeats 4000000
set_option exponentiation.threshold 2000
namespace Mk
def cop (m n : Int) : Bool := decide (Int.gcd n m = 1)
def dif (ws : List Int) : List Int := (ws.zip (ws.drop 1)).map fun p => p.2 - p.1
def safe (m : Int) (ws : List Int) : Bool := (ws ++ dif ws).all (cop m)
theorem gcd_step (a b : Int) : Int.gcd b (a % b) = Int.gcd a b := by
  rw [Int.emod_def, Int.gcd_sub_mul_left_right, Int.gcd_comm]
theorem safe_iff {m : Int} {ws : List Int} : safe m ws = true ↔ (∀ w ∈ ws, cop m w = true) ∧ ∀ (j : Nat) a b, ws[j]? = some a → ws[j + 1]? = some b → cop m (b - a) = true := by
  unfold safe
  rw [List.all_append, Bool.and_eq_true, List.all_eq_true, List.all_eq_true]
  refine and_congr Iff.rfl ⟨fun h j a b ha hb => ?_, fun h x hx => ?_⟩
  · refine h (b - a) (List.mem_map.mpr ⟨(a, b), ?_, rfl⟩)
    refine List.mem_of_getElem? (i := j) ?_
    rw [List.getElem?_zip_eq_some]
    exact ⟨ha, by rw [List.getElem?_drop, Nat.add_comm]; exact hb⟩
  · unfold dif at hx
    obtain ⟨⟨a, b⟩, hp, rfl⟩ := List.mem_map.mp hx
    obtain ⟨j, hj⟩ := List.getElem?_of_mem hp
    rw [List.getElem?_zip_eq_some] at hj
    exact h j a b hj.1 (by have := hj.2; rw [List.getElem?_drop, Nat.add_comm] at this; exact this)
def big : Int := 314159265358979323846264338327950288419716939937510582097494
def mixed (c : Int) : Int := (c % 10 ^ 60 * big + 27182818284590452353602874713527) % (10 ^ 60 + 7)
def ofN (n : Nat) : List Int := (List.range n).map fun (k : Nat) => (k : Int)
theorem ofN_len (n : Nat) : (ofN n).length = n := by simp [ofN]
theorem mem_ofN {n : Nat} {x : Int} : x ∈ ofN n ↔ 0 ≤ x ∧ x < n := by
  unfold ofN
  rw [List.mem_map]
  constructor
  · rintro ⟨k, hk, rfl⟩
    have := List.mem_range.mp hk
    omega
  · rintro ⟨h1, h2⟩
    exact ⟨x.toNat, List.mem_range.mpr (by omega), by omega⟩
def cand (m : Int) (found : List Int) : List Int := (ofN m.toNat).filter fun w => cop m w && (found.isEmpty || cop m (w - found.getLastD 0))
def pool (m : Int) (found : List Int) : List Int := if cand m found = [] then ofN m.toNat else cand m found
def wtsGo (m : Int) : Nat → Int → List Int → List Int
  | 0, _, found => found
  | n + 1, c, found => wtsGo m n (c / 7) (found ++ [(pool m found).getD (c % ((pool m found).length : Int)).toNat 0])
def wts (c m : Int) (n : Nat) : List Int := wtsGo m n c []
theorem pool_mem {m : Int} {found : List Int} {x : Int} (h : x ∈ pool m found) : 0 ≤ x ∧ x < m := by
  unfold pool at h
  split at h
  · have := mem_ofN.mp h; omega
  · have := mem_ofN.mp (List.mem_filter.mp h).1; omega
theorem pool_pos {m : Int} (hm : 0 < m) (found : List Int) : 0 < (pool m found).length := by
  unfold pool
  split
  · rw [ofN_len]; omega
  · rename_i h
    exact List.length_pos_iff.mpr h
theorem pick_lt {m : Int} (hm : 0 < m) (found : List Int) (c : Int) : 0 ≤ c % ((pool m found).length : Int) ∧ c % ((pool m found).length : Int) < ((pool m found).length : Int) := by
  have := pool_pos hm found
  exact ⟨Int.emod_nonneg _ (by omega), Int.emod_lt_of_pos _ (by omega)⟩
theorem pick_mem {m : Int} (hm : 0 < m) (found : List Int) (c : Int) : (pool m found).getD (c % ((pool m found).length : Int)).toNat 0 ∈ pool m found := by
  obtain ⟨h1, h2⟩ := pick_lt hm found c
  have h3 : (c % ((pool m found).length : Int)).toNat < (pool m found).length := by omega
  rw [List.getD_eq_getElem?_getD, List.getElem?_eq_getElem h3]
  exact List.getElem_mem h3
theorem wtsGo_len (m : Int) : ∀ (n : Nat) (c : Int) (found : List Int), (wtsGo m n c found).length = found.length + n
  | 0, _, _ => rfl
  | n + 1, c, found => by
    unfold wtsGo
    rw [wtsGo_len m n, List.length_append, List.length_singleton]; omega
theorem wts_len (c m : Int) (n : Nat) : (wts c m n).length = n := by unfold wts; rw [wtsGo_len]; simp
theorem wtsGo_mem {m : Int} (hm : 0 < m) : ∀ (n : Nat) (c : Int) (found : List Int), (∀ x ∈ found, 0 ≤ x ∧ x < m) → ∀ x ∈ wtsGo m n c found, 0 ≤ x ∧ x < m
  | 0, _, _, h => h
  | n + 1, c, found, h => by
    unfold wtsGo
    refine wtsGo_mem hm n _ _ fun x hx => ?_
    rcases List.mem_append.mp hx with hx | hx
    · exact h x hx
    · rw [List.mem_singleton] at hx; subst hx; exact pool_mem (pick_mem hm found c)
theorem wts_mem {m : Int} (hm : 0 < m) (c : Int) (n : Nat) : ∀ x ∈ wts c m n, 0 ≤ x ∧ x < m := wtsGo_mem hm n c [] (fun _ h => by cases h)
def digs (m : Int) : Nat → Int → List Int
  | 0, _ => []
  | n + 1, c => c % m :: digs m n (c / 31)
theorem digs_len (m : Int) : ∀ (n : Nat) (c : Int), (digs m n c).length = n
  | 0, _ => rfl
  | n + 1, c => by unfold digs; rw [List.length_cons, digs_len m n]
theorem digs_mem {m : Int} (hm : 0 < m) : ∀ (n : Nat) (c : Int), ∀ x ∈ digs m n c, 0 ≤ x ∧ x < m
  | 0, _ => fun _ h => by cases h
  | n + 1, c => fun x hx => by
    unfold digs at hx
    rcases List.mem_cons.mp hx with rfl | hx
    · exact ⟨Int.emod_nonneg _ (by omega), Int.emod_lt_of_pos _ hm⟩
    · exact digs_mem hm n _ x hx
theorem digs_snoc (m : Int) : ∀ (n : Nat) (c : Int), digs m (n + 1) c = digs m n c ++ [(c / 31 ^ n) % m]
  | 0, c => by simp [digs]
  | n + 1, c => by
    rw [digs, digs_snoc m n]
    show c % m :: (digs m n (c / 31) ++ [c / 31 / 31 ^ n % m]) = (c % m :: digs m n (c / 31)) ++ [c / 31 ^ (n + 1) % m]
    rw [Int.ediv_ediv_of_nonneg (by decide), ← Int.pow_succ', List.cons_append]
def w1 (n m : Int) : List Int := wts (n / 100) m (3 + n % 6).toNat
def w2 (n m : Int) : List Int := if n / 6 % 4 = 1 then (w1 n m).set (n / 24 % ((w1 n m).length : Int)).toNat (n / 200 % m) else w1 n m
def w3 (n m : Int) : List Int := if n / 6 % 4 = 2 then digs m (w2 n m).length (n / 100) else w2 n m
def w4 (n m : Int) : List Int := if n / 6 % 4 = 3 ∧ n / 24 % 2 = 1 then List.replicate (w3 n m).length (n / 48 % m) else w3 n m
def someW (c m : Int) : List Int := w4 (mixed c) m
theorem w2_len (n m : Int) : (w2 n m).length = (w1 n m).length := by unfold w2; split <;> simp
theorem w3_len (n m : Int) : (w3 n m).length = (w1 n m).length := by unfold w3; split <;> simp [digs_len, w2_len]
theorem w4_len (n m : Int) : (w4 n m).length = (w1 n m).length := by unfold w4; split <;> simp [w3_len]
theorem w1_bounds {n m : Int} : 3 ≤ (w1 n m).length ∧ (w1 n m).length ≤ 8 := by
  unfold w1; rw [wts_len]
  have h1 : 0 ≤ n % 6 := Int.emod_nonneg _ (by decide)
  have h2 : n % 6 < 6 := Int.emod_lt_of_pos _ (by decide)
  omega
theorem someW_bounds (c m : Int) : 3 ≤ (someW c m).length ∧ (someW c m).length ≤ 8 := by
  unfold someW; rw [w4_len]; exact w1_bounds
theorem mod_mem {n m : Int} (hm : 0 < m) : 0 ≤ n % m ∧ n % m < m := ⟨Int.emod_nonneg _ (by omega), Int.emod_lt_of_pos _ hm⟩
theorem w1_mem {n m : Int} (hm : 0 < m) : ∀ x ∈ w1 n m, 0 ≤ x ∧ x < m := wts_mem hm _ _
theorem w2_mem {n m : Int} (hm : 0 < m) : ∀ x ∈ w2 n m, 0 ≤ x ∧ x < m := by
  unfold w2
  split
  · intro x hx
    rcases List.mem_or_eq_of_mem_set hx with h | h
    · exact w1_mem hm x h
    · rw [h]; exact mod_mem hm
  · exact w1_mem hm
theorem w3_mem {n m : Int} (hm : 0 < m) : ∀ x ∈ w3 n m, 0 ≤ x ∧ x < m := by
  unfold w3
  split
  · exact digs_mem hm _ _
  · exact w2_mem hm
theorem w4_mem {n m : Int} (hm : 0 < m) : ∀ x ∈ w4 n m, 0 ≤ x ∧ x < m := by
  unfold w4
  split
  · intro x hx
    rw [(List.mem_replicate.mp hx).2]; exact mod_mem hm
  · exact w3_mem hm
theorem someW_mem {c m : Int} (hm : 0 < m) : ∀ x ∈ someW c m, 0 ≤ x ∧ x < m := w4_mem hm
def altAt (k : Nat) : Int := if k % 2 = 0 then 1 else 2
def alt (n : Nat) : List Int := (List.range n).map altAt
theorem cop_le {m n : Int} (h : cop m n = true) : Int.gcd n m = 1 := of_decide_eq_true h
def fits (m : Int) (ws : List Int) : List Int := (ofN m.toNat).filter fun w => safe m (ws.drop (ws.length - 1) ++ [w])
end Mk

namespace Mk
def dot : List Int → List Int → Int
  | a :: r, b :: t => a * b + dot r t
  | _, _ => 0
theorem dot_nil (ps : List Int) : dot [] ps = 0 := by unfold dot; rfl
theorem dot_snoc : ∀ (ws ps : List Int) (a b : Int), ws.length = ps.length → dot (ws ++ [a]) (ps ++ [b]) = dot ws ps + a * b
  | [], [], a, b, _ => by simp [dot]
  | [], _ :: _, _, _, h => by simp at h
  | _ :: _, [], _, _, h => by simp at h
  | x :: r, y :: t, a, b, h => by
    show x * y + dot (r ++ [a]) (t ++ [b]) = x * y + dot r t + a * b
    rw [dot_snoc r t a b (by simpa using h), Int.add_assoc]
theorem dot_take : ∀ (ws ps : List Int), ws.length ≤ ps.length → dot ws (ps.take ws.length) = dot ws ps
  | [], _, _ => by simp [dot]
  | _ :: _, [], h => by simp at h
  | a :: r, b :: t, h => by
    show a * b + dot r (t.take r.length) = a * b + dot r t
    rw [dot_take r t (by simpa using h)]
def plc (al w : List Nat) : List Int := w.map fun c => ((al.idxOf c : Nat) : Int)
def good (m : Int) (ws : List Int) (r : Int) (ps : List Int) : Bool := decide ((dot ws ps - r) % m = 0)
def spell (al : List Nat) (ps : List Int) : List Nat := ps.map fun p => al.getD p.toNat 0
theorem spell_len (al : List Nat) (ps : List Int) : (spell al ps).length = ps.length := by simp [spell]
theorem getD_at {al : List Nat} {p : Int} (h : 0 ≤ p ∧ p < al.length) : al[p.toNat]? = some (al.getD p.toNat 0) := by
  rw [List.getD_eq_getElem?_getD, List.getElem?_eq_getElem (by omega)]; rfl
theorem getD_mem {al : List Nat} {p : Int} (h : 0 ≤ p ∧ p < al.length) : al.getD p.toNat 0 ∈ al := List.mem_of_getElem? (getD_at h)
theorem idxOf_get {al : List Nat} (nd : al.Nodup) {i c : Nat} (h : al[i]? = some c) : al.idxOf c = i := by
  obtain ⟨hi, e⟩ := List.getElem?_eq_some_iff.mp h
  subst e
  exact List.Nodup.idxOf_getElem nd i hi
theorem plc_spell {al : List Nat} (nd : al.Nodup) : ∀ {ps : List Int}, (∀ p ∈ ps, 0 ≤ p ∧ p < al.length) → plc al (spell al ps) = ps
  | [], _ => rfl
  | p :: r, h => by
    show ((al.idxOf (al.getD p.toNat 0) : Nat) : Int) :: plc al (spell al r) = p :: r
    rw [plc_spell nd (fun q hq => h q (List.mem_cons_of_mem _ hq)), idxOf_get nd (getD_at (h p List.mem_cons_self))]
    rw [Int.toNat_of_nonneg (h p List.mem_cons_self).1]
def alphaN (c : Int) : Int := if c / 12 % 3 = 0 then 3 + c / 36 % 24 else [3, 5, 7, 9, 11, 15, 21, 25, 26, 4, 6, 13].getD (c % 12).toNat 0
def alphaS (c : Int) : Int := [1, 25, 3, 5, 7, 9, 11, 15, 17].getD (c / 1000 % 9).toNat 0
def alpha (c : Int) : List Nat := (List.range (alphaN c).toNat).map fun (k : Nat) => 97 + ((c / 9000 + alphaS c * (k : Int)) % 26).toNat
theorem getD_all {l : List Int} {P : Int → Prop} (h : ∀ x ∈ l, P x) (i : Nat) (hi : i < l.length) : P (l.getD i 0) := by
  rw [List.getD_eq_getElem?_getD, List.getElem?_eq_getElem hi]; exact h _ (List.getElem_mem hi)
theorem alphaN_bounds (c : Int) : 3 ≤ alphaN c ∧ alphaN c ≤ 26 := by
  unfold alphaN
  split
  · have := Int.emod_nonneg (c / 36) (b := 24) (by decide)
    have := Int.emod_lt_of_pos (c / 36) (b := 24) (by decide)
    omega
  · refine getD_all (l := [3, 5, 7, 9, 11, 15, 21, 25, 26, 4, 6, 13]) (P := fun x => 3 ≤ x ∧ x ≤ 26) (by decide) _ ?_
    have := Int.emod_nonneg c (b := 12) (by decide)
    have := Int.emod_lt_of_pos c (b := 12) (by decide)
    show (c % 12).toNat < 12
    omega
theorem alpha_len (c : Int) : ((alpha c).length : Int) = alphaN c := by
  have := alphaN_bounds c
  unfold alpha
  rw [List.length_map, List.length_range]
  omega
theorem alpha_bounds (c : Int) : 3 ≤ (alpha c).length ∧ (alpha c).length ≤ 26 := by
  have := alpha_len c
  have := alphaN_bounds c
  omega
theorem alphaS_mem (c : Int) : alphaS c ∈ [1, 25, 3, 5, 7, 9, 11, 15, 17] := by
  unfold alphaS
  refine getD_all (l := [1, 25, 3, 5, 7, 9, 11, 15, 17]) (P := fun x => x ∈ [1, 25, 3, 5, 7, 9, 11, 15, 17]) (fun x h => h) _ ?_
  have := Int.emod_nonneg (c / 1000) (b := 9) (by decide)
  have := Int.emod_lt_of_pos (c / 1000) (b := 9) (by decide)
  show (c / 1000 % 9).toNat < 9
  omega
theorem alpha_nodup (c : Int) : (alpha c).Nodup := by
  have hb := alphaN_bounds c
  have hs := alphaS_mem c
  unfold alpha
  generalize alphaS c = st at hs
  generalize c / 9000 = a
  generalize hn : (alphaN c).toNat = n
  have hn26 : n ≤ 26 := by omega
  refine List.pairwise_map.mpr (List.Pairwise.imp_of_mem (R := (· < ·)) ?_ List.pairwise_lt_range)
  intro i j hi hj hij e
  rw [List.mem_range] at hi hj
  simp only [List.mem_cons, List.not_mem_nil, or_false] at hs
  have h1 := Int.emod_nonneg (a + st * (i : Int)) (b := 26) (by decide)
  have h2 := Int.emod_nonneg (a + st * (j : Int)) (b := 26) (by decide)
  have e2 : (a + st * (i : Int)) % 26 = (a + st * (j : Int)) % 26 := by omega
  rcases hs with rfl | rfl | rfl | rfl | rfl | rfl | rfl | rfl | rfl <;> omega
def sml (xs : List Int) : Prop := ∀ x ∈ xs, 0 ≤ x ∧ x < 1000
theorem sml_of {xs : List Int} {m : Int} (h : ∀ x ∈ xs, 0 ≤ x ∧ x < m) (hm : m ≤ 1000) : sml xs := fun x hx => ⟨(h x hx).1, Int.lt_of_lt_of_le (h x hx).2 hm⟩
theorem dot_step {ws ps : List Int} {i : Nat} (h1 : i < ws.length) (h2 : i < ps.length) : dot (ws.take i) (ps.take i) + ws[i] * ps[i] = dot (ws.take (i + 1)) (ps.take (i + 1)) := by
  rw [List.take_succ_eq_append_getElem h1, List.take_succ_eq_append_getElem h2, dot_snoc]
  simp; omega
end Mk

namespace Mk
theorem inv_small : ∀ m : Nat, m < 27 → 0 < m → ∀ w : Nat, w < m → Nat.gcd w m = 1 → ∃ v : Nat, v < m ∧ (w * v) % m = 1 % m := by decide +kernel
theorem inv_of {m w : Int} (h0 : 0 < m) (h26 : m ≤ 26) (hw : 0 ≤ w ∧ w < m) (hc : cop m w = true) : ∃ v t : Int, w * v = 1 + m * t := by
  obtain ⟨M, rfl⟩ := Int.eq_ofNat_of_zero_le (Int.le_of_lt h0)
  obtain ⟨W, rfl⟩ := Int.eq_ofNat_of_zero_le hw.1
  have hg : Nat.gcd W M = 1 := of_decide_eq_true hc
  obtain ⟨v, _, e⟩ := inv_small M (by omega) (by omega) W (by omega) hg
  refine ⟨v, ((W * v : Nat) : Int) / (M : Int) - (1 : Int) / (M : Int), ?_⟩
  have e1 := Int.mul_ediv_add_emod ((W * v : Nat) : Int) (M : Int)
  have e2 := Int.mul_ediv_add_emod (1 : Int) (M : Int)
  have e3 : ((W * v : Nat) : Int) % (M : Int) = (1 : Int) % (M : Int) := by exact_mod_cast e
  rw [e3] at e1
  rw [Int.mul_sub]
  have e4 : ((W * v : Nat) : Int) = (W : Int) * (v : Int) := by push_cast; rfl
  omega
theorem filter_one {l : List Int} (hn : l.Nodup) {p : Int → Bool} {x : Int} (hx : x ∈ l) (h : ∀ y ∈ l, (p y = true ↔ y = x)) : l.filter p = [x] := by
  induction l with
  | nil => cases hx
  | cons a r ih =>
    rw [List.nodup_cons] at hn
    rw [List.filter_cons]
    by_cases e : a = x
    · subst e
      rw [if_pos ((h a List.mem_cons_self).mpr rfl)]
      congr 1
      rw [List.filter_eq_nil_iff]
      intro y hy hp
      exact hn.1 ((h y (List.mem_cons_of_mem _ hy)).mp hp ▸ hy)
    · rw [if_neg (fun z => e ((h a List.mem_cons_self).mp z))]
      refine ih hn.2 ?_ fun y hy => h y (List.mem_cons_of_mem _ hy)
      rcases List.mem_cons.mp hx with z | z
      · exact absurd z.symm e
      · exact z
theorem ofN_nodup (n : Nat) : (ofN n).Nodup := by
  unfold ofN
  refine List.pairwise_map.mpr (List.Pairwise.imp ?_ List.pairwise_lt_range)
  intro a b h e
  omega
end Mk

namespace Mk
theorem dot_set : ∀ (ws ps : List Int) (i : Nat) (w p x : Int), ws[i]? = some w → ps[i]? = some p → dot ws (ps.set i x) = dot ws ps + w * (x - p)
  | [], _, _, _, _, _, h, _ => by simp at h
  | _ :: _, [], _, _, _, _, _, h => by simp at h
  | a :: ws, b :: ps, 0, w, p, x, h1, h2 => by
    simp at h1 h2
    subst h1 h2
    show dot (a :: ws) (x :: ps) = dot (a :: ws) (b :: ps) + a * (x - b)
    unfold dot
    grind
  | a :: ws, b :: ps, i + 1, w, p, x, h1, h2 => by
    have := dot_set ws ps i w p x (by simpa using h1) (by simpa using h2)
    show dot (a :: ws) (b :: ps.set i x) = dot (a :: ws) (b :: ps) + w * (x - p)
    unfold dot
    grind
section
variable {m r k : Int} {ws : List Int} (h0 : 0 < m) (h26 : m ≤ 26) (hm : ∀ x ∈ ws, 0 ≤ x ∧ x < m) (hs : safe m ws = true) (hl : 1 ≤ ws.length)
include h0 h26 hm hs hl
omit h26 hm hs hl in
end
theorem set_mem2 {ps : List Int} {m x : Int} {i : Nat} (h : ∀ p ∈ ps, 0 ≤ p ∧ p < m) (hx : 0 ≤ x ∧ x < m) : ∀ p ∈ ps.set i x, 0 ≤ p ∧ p < m := by
  intro p hp
  rcases List.mem_or_eq_of_mem_set hp with hp | hp
  · exact h p hp
  · rw [hp]; exact hx
end Mk

namespace L2
open PySem PySem.Spec PyProof.Rows
def clo (cells : List (Str × Addr)) : List (Str × NameKind) → List (Str × Addr) → Option (List (Str × Addr))
  | [], acc => some acc
  | (n, k) :: r, acc => if k == .free then (match cells.lookup n with | some c => clo cells r ((n, c) :: acc) | none => none) else clo cells r acc
theorem clo_pure {env : Env} : ∀ (names : List (Str × NameKind)) (acc cl : List (Str × Addr)), clo env.cells names acc = some cl →
    (forIn names acc fun (x : Str × NameKind) (cs : List (Str × Addr)) => (if x.2 == .free then do let c ← cellOf env x.1; pure (ForInStep.yield ((x.1, c) :: cs)) else pure (ForInStep.yield cs) : Sem (ForInStep (List (Str × Addr))))) = pure cl
  | [], acc, cl, h => by
    have e : acc = cl := Option.some.inj h
    subst e; rfl
  | (n, k) :: r, acc, cl, h => by
    rw [List.forIn_cons]
    unfold clo at h
    by_cases hk : (k == NameKind.free) = true
    · rw [if_pos hk] at h
      cases hc : env.cells.lookup n with
      | none => rw [hc] at h; cases h
      | some c =>
        rw [hc] at h
        have ih := clo_pure (env := env) r ((n, c) :: acc) cl h
        have e1 : cellOf env n = pure c := by unfold cellOf; rw [hc]
        simp only [hk, if_true, e1, pure_bind]
        exact ih
    · rw [if_neg hk] at h
      have ih := clo_pure (env := env) r acc cl h
      simp only [hk, if_false, pure_bind, Bool.false_eq_true]
      exact ih
theorem closureFor_clo {scope : Scope} {env : Env} {cl : List (Str × Addr)} (h : clo env.cells scope.names [] = some cl) : closureFor scope env = pure cl := by
  have e := clo_pure (env := env) scope.names [] cl h
  unfold closureFor
  simp only [bind_pure]
  first
    | exact e
    | (simp only [bind_pure_comp, map_pure] at e ⊢; exact e)
    | (rw [show (fun (x : Str × NameKind) (r : List (Str × Addr)) => _) = _ from rfl]; exact e)
theorem clo_sub {cells : List (Str × Addr)} : ∀ (names : List (Str × NameKind)) (acc cl : List (Str × Addr)), clo cells names acc = some cl →
    (∀ x c, acc.lookup x = some c → cells.lookup x = some c) → ∀ x c, cl.lookup x = some c → cells.lookup x = some c
  | [], acc, cl, h, ha => by
    have e : acc = cl := Option.some.inj h
    subst e; exact ha
  | (n, k) :: r, acc, cl, h, ha => by
    unfold clo at h
    by_cases hk : (k == NameKind.free) = true
    · rw [if_pos hk] at h
      cases hc : cells.lookup n with
      | none => rw [hc] at h; cases h
      | some c =>
        rw [hc] at h
        refine clo_sub r ((n, c) :: acc) cl h fun x c' e => ?_
        rw [List.lookup_cons] at e
        by_cases hx : (x == n) = true
        · rw [hx] at e
          have e' : c = c' := Option.some.inj e
          subst e'
          have : x = n := eq_of_beq hx
          subst this; exact hc
        · rw [Bool.not_eq_true] at hx
          rw [hx] at e
          exact ha x c' e
    · rw [if_neg hk] at h
      exact clo_sub r acc cl h ha
theorem clo_keep {cells : List (Str × Addr)} : ∀ (names : List (Str × NameKind)) (acc cl : List (Str × Addr)), clo cells names acc = some cl → ∀ x, (∃ c, acc.lookup x = some c) → ∃ c, cl.lookup x = some c
  | [], acc, cl, h, x, hx => by
    have e : acc = cl := Option.some.inj h
    subst e; exact hx
  | (n, k) :: r, acc, cl, h, x, hx => by
    unfold clo at h
    by_cases hk : (k == NameKind.free) = true
    · rw [if_pos hk] at h
      cases hc : cells.lookup n with
      | none => rw [hc] at h; cases h
      | some c =>
        rw [hc] at h
        refine clo_keep r ((n, c) :: acc) cl h x ?_
        rw [List.lookup_cons]
        by_cases hxn : (x == n) = true
        · rw [hxn]; exact ⟨c, rfl⟩
        · rw [Bool.not_eq_true] at hxn
          rw [hxn]; exact hx
    · rw [if_neg hk] at h
      exact clo_keep r acc cl h x hx
theorem clo_has {cells : List (Str × Addr)} : ∀ (names : List (Str × NameKind)) (acc cl : List (Str × Addr)), clo cells names acc = some cl → ∀ x, (x, NameKind.free) ∈ names → ∃ c, cl.lookup x = some c
  | [], _, _, _, x, hx => by cases hx
  | (n, k) :: r, acc, cl, h, x, hx => by
    unfold clo at h
    by_cases hk : (k == NameKind.free) = true
    · rw [if_pos hk] at h
      cases hc : cells.lookup n with
      | none => rw [hc] at h; cases h
      | some c =>
        rw [hc] at h
        rcases List.mem_cons.mp hx with e | hx
        · have e1 : x = n := congrArg Prod.fst e
          subst e1
          exact clo_keep r ((x, c) :: acc) cl h x ⟨c, by rw [List.lookup_cons, beq_self_eq_true]⟩
        · exact clo_has r _ cl h x hx
    · rw [if_neg hk] at h
      rcases List.mem_cons.mp hx with e | hx
      · cases e
        exact absurd (by rfl) hk
      · exact clo_has r acc cl h x hx
theorem relabel_kind {env : Env} : ∀ {names : List (Str × NameKind)} {x : Str} {k' : NameKind},
    (names.map fun (n, k) => if (k == NameKind.free && env.scope.kind == .function && env.kindOf n == some .cell) then (n, NameKind.cell) else (n, k)).lookup x = some k' → (x, k') ∈ names ∨ (k' = .cell ∧ (x, NameKind.free) ∈ names)
  | [], _, _, h => by cases h
  | (n, k) :: r, x, k', h => by
    have ih := @relabel_kind env r x k'
    by_cases hc : (k == NameKind.free && env.scope.kind == .function && env.kindOf n == some .cell) = true
    · have h2 : (((n, NameKind.cell) :: (r.map fun (n, k) => if (k == NameKind.free && env.scope.kind == .function && env.kindOf n == some .cell) then (n, NameKind.cell) else (n, k))).lookup x) = some k' := by
        rw [← h, List.map_cons]; simp only [hc, if_true]
      rw [List.lookup_cons] at h2
      by_cases hx : (x == n) = true
      · rw [hx] at h2
        have e : NameKind.cell = k' := Option.some.inj h2
        have e2 : x = n := eq_of_beq hx
        have e3 : k = .free := by
          simp only [Bool.and_eq_true] at hc
          exact eq_of_beq hc.1.1
        subst e e2 e3
        exact .inr ⟨rfl, List.mem_cons_self⟩
      · rw [Bool.not_eq_true] at hx
        rw [hx] at h2
        rcases ih h2 with q | ⟨e, q⟩
        · exact .inl (List.mem_cons_of_mem _ q)
        · exact .inr ⟨e, List.mem_cons_of_mem _ q⟩
    · have h2 : (((n, k) :: (r.map fun (n, k) => if (k == NameKind.free && env.scope.kind == .function && env.kindOf n == some .cell) then (n, NameKind.cell) else (n, k))).lookup x) = some k' := by
        rw [← h, List.map_cons]; simp only [hc, if_false, Bool.false_eq_true]
      rw [List.lookup_cons] at h2
      by_cases hx : (x == n) = true
      · rw [hx] at h2
        have e : k = k' := Option.some.inj h2
        have e2 : x = n := eq_of_beq hx
        subst e e2
        exact .inl List.mem_cons_self
      · rw [Bool.not_eq_true] at hx
        rw [hx] at h2
        rcases ih h2 with q | ⟨e, q⟩
        · exact .inl (List.mem_cons_of_mem _ q)
        · exact .inr ⟨e, List.mem_cons_of_mem _ q⟩
abbrev Cx.blk (X : Cx) (N' : List Str) (scope : Scope) (cl : List (Str × Addr)) (C : Addr) (s₀ : Shared) (H₀ : Hp) (ex : List Addr) : Cx :=
  { X with N := N', s₀ := s₀, H₀ := H₀, env := compEnvC scope cl C X.env, outer := X.stack, stack := X.stack, ex := ex, fn := fun _ => false, pn := [], xe := fun _ _ => False }
inductive FrOk (X : Cx) : List Str → List Nat → Prop
  | nil : FrOk X [] []
  | cons {x : Str} {j : Nat} {xs : List Str} {js : List Nat} : X.N[j]? = some x → (X.env.kindOf x = some .cell ∨ X.env.kindOf x = some .free) → FrOk X xs js → FrOk X (x :: xs) (j :: js)
theorem FrOk.get {X : Cx} : ∀ {xs : List Str} {js : List Nat} {i : Nat} {x : Str}, FrOk X xs js → xs[i]? = some x → ∃ j, js[i]? = some j ∧ X.N[j]? = some x ∧ (X.env.kindOf x = some .cell ∨ X.env.kindOf x = some .free)
  | _, _, _, _, .nil, e => by simp at e
  | _, _, 0, _, .cons a b _, e => by simp at e; subst e; exact ⟨_, rfl, a, b⟩
  | _, _, i + 1, x, .cons _ _ t, e => by
    obtain ⟨j, h1, h2⟩ := FrOk.get (i := i) (x := x) t (by simpa using e)
    exact ⟨j, by simpa using h1, h2⟩
theorem FrOk.len {X : Cx} : ∀ {xs : List Str} {js : List Nat}, FrOk X xs js → xs.length = js.length
  | _, _, .nil => rfl
  | _, _, .cons _ _ t => by rw [List.length_cons, List.length_cons, t.len]
def blkSt (k : Nat) (js : List Nat) (σ : St) : St := List.replicate k none ++ js.map fun j => (σ[j]?).join
def PIf (X : Cx) (ifs : List Expr) (t : TT) : Prop :=
  ∀ (pins : List (Addr × Obj)) (s : Shared) (σ : St) (H : Hp) (Q : Bool → Hp → Prop), Inv X pins σ H s → t σ H Q →
    wpAny (model X.prog X.w) X.A (forIn ifs true fun c r => if r = true then do let ok ← isTrue c X.env (eval c X.env); pure (ForInStep.yield ok) else pure (ForInStep.yield r)) (TP X pins σ Q) X.xe s
def tYes : TT := fun _ H Q => Q true H
theorem pif_nil {X : Cx} : PIf X [] tYes := fun _ _ _ H _ I h => wpAny_tests_nil ⟨H, I, h⟩
theorem pif_one {X : Cx} {c : Expr} {t : TT} (h : PT X c t) : PIf X [c] t := fun pins s σ H Q I q => wpAny_tests_one (h pins s σ H Q I q)
section
variable {prog : Program} {w : World} {A : Around} {R : Result → Shared → Prop} {s : Shared}
theorem compLoop_go {elt target iter : Expr} {ifs : List Expr} {scope : Scope} {pos : Pos} {it acc : Value} {env : Env} (I : Nat → Shared → Prop)
    (turn : ∀ n s, I n s → wpAny (model prog w) A (pyNext it) (fun r s₁ => match r with
      | none => R (.ok .next) s₁
      | some v => wpAny (model prog w) A (letOwnedTupleGo target it v) (fun _ s₀ => wpAny (model prog w) A (assign target env v) (fun _ s₂ =>
          wpAny (model prog w) A (forIn ifs true fun c r => if r = true then do let ok ← isTrue c env (eval c env); pure (ForInStep.yield ok) else pure (ForInStep.yield r)) (fun ok s₃ =>
            if ok = true then wpAny (model prog w) A (eval elt env) (fun x s₄ =>
              wpAny (model prog w) A (call (.builtin "list.append") [acc, x]) (fun _ s₅ => ∃ m, m < n ∧ I m s₅) (fun _ _ => False) s₄) (fun _ _ => False) s₃
            else ∃ m, m < n ∧ I m s₃) (fun _ _ => False) s₂) (fun _ _ => False) s₀) (fun _ _ => False) s₁) (fun _ _ => False) s)
    (n : Nat) (h : I n s) :
    codeAny (model prog w) A (.compLoop (.ListComp elt [⟨target, iter, ifs, 0⟩] scope pos) 0 it acc env) R s := by
  refine codeAny_loop rfl I (fun n s hI => ?_) n h
  show wpAny _ A ((compTurn (.ListComp elt [⟨target, iter, ifs, 0⟩] scope pos) 0 it acc env).onRaise (fun x => do noteFrame x env; theTreesLotGoes x)) _ _ s
  refine wpAny_noted ?_
  rw [compTurn_list]
  refine wpAny_bind (wpAny_standAt (wpAny_bind (wpAny_mono (turn n s hI) (fun r s₁ h₁ => ?_) fun _ _ h' => h'.elim)))
  cases r with
  | none => exact wpAny_pure h₁
  | some v =>
    refine wpAny_bind (wpAny_mono h₁ (fun _ s₀ h₀ => ?_) fun _ _ h' => h'.elim)
    refine wpAny_bind (wpAny_mono h₀ (fun _ s₂ h₂ => wpAny_bind (wpAny_mono h₂ (fun ok s₃ h₃ => ?_) fun _ _ h' => h'.elim)) fun _ _ h' => h'.elim)
    cases ok with
    | false => exact wpAny_pure ⟨rfl, h₃⟩
    | true =>
      exact wpAny_bind (wpAny_bind (wpAny_mono h₃ (fun x s₄ h₄ => wpAny_bind (wpAny_mono h₄ (fun _ s₅ h₅ => wpAny_pure (wpAny_pure ⟨rfl, h₅⟩)) fun _ _ h' => h'.elim)) fun _ _ h' => h'.elim))
end
def LcTurns (g : TG) (tc : TT) (te : TE) (σ' : St) (J : It) (H1 : Hp) (Q : VK) : Prop :=
  ∀ D, H1 D = none → ∃ W : Nat → Nat → List V → St → Hp → Prop, (∃ m, W 0 m [] σ' (upd H1 D (.lst []))) ∧ ∀ i m ys σ1 H, W i m ys σ1 H → H D = some (.lst ys) ∧ ys.length < sizeLine ∧
    ((J.stop i H ∧ Q (.ref D) H) ∨ (J.go i H ∧ ∀ x H', J.yld i H x H' → g x σ1 H' fun σ2 H2 => tc σ2 H2 fun b H3 =>
      if b = true then te σ2 H3 fun v H4 => H4 D = some (.lst ys) ∧ ∃ m', m' < m ∧ W (i + 1) m' (ys ++ [v]) σ2 (upd H4 D (.lst (ys ++ [v]))) else ∃ m', m' < m ∧ W (i + 1) m' ys σ2 H3))
structure BlkOk (X : Cx) (scope : Scope) (cl : List (Str × Addr)) : Prop where
  clo : L2.clo X.env.cells scope.names [] = some cl
  cell : ∀ y ∈ scope.names, y.2 ≠ .cell
  kind : scope.kind = .function
  names : ∀ y ∈ scope.names, y.2 = .local → scope.names.lookup y.1 = some .local
section
variable {X : Cx} {pins : List (Addr × Obj)} {σ : St} {H1 : Hp} {s₂ : Shared} {E : Value → Shared → Prop}
theorem Inv.blkOk {scope : Scope} {cl : List (Str × Addr)} {N' : List Str} {C : Addr} {fp : List Addr} (I : Inv X pins σ H1 s₂) (B : BlkOk X scope cl) (hC : s₂.heap.objs.size ≤ C) (hf : ∀ b ∈ fp, FpOk X pins H1 b)
    (ho : ∀ b ∈ fp, ∃ o, s₂.heap.get? b = some o) : (X.blk N' scope cl C s₂ H1 fp).Ok := by
  have sub := clo_sub scope.names [] cl B.clo (fun x c e => by cases e)
  refine ⟨I.ok.mod, B.kind, I.ok.glob, I.ok.blt, hC, fun x y c h1 h2 => I.ok.inj x y c (sub x c h1) (sub y c h2), fun x hx => ?_, fun x c h => ?_, I.ok.hd, I.ok.frames, .inl rfl, fun b hb => ⟨?_, fun x c e => ?_⟩, I.bs,
    Nat.le_trans I.ok.bsz I.sz, fun b o e hb => ?_, fun b hb hs => ?_, I.stack, I.stkFree⟩
  · have hx' : (compEnvC scope cl C X.env).kindOf x = some .cell ∨ (compEnvC scope cl C X.env).kindOf x = some .free := hx
    have key : ∀ k', (compEnvC scope cl C X.env).kindOf x = some k' → (k' = .cell ∨ k' = .free) → ∃ c, cl.lookup x = some c := fun k' e hk => by
      have e' : (scope.names.map fun (n, k) => if (k == NameKind.free && X.env.scope.kind == .function && X.env.kindOf n == some .cell) then (n, NameKind.cell) else (n, k)).lookup x = some k' := e
      rcases relabel_kind e' with q | ⟨_, q⟩
      · rcases hk with rfl | rfl
        · exact absurd rfl (B.cell _ q)
        · exact clo_has scope.names [] cl B.clo x q
      · exact clo_has scope.names [] cl B.clo x q
    rcases hx' with hx' | hx'
    · exact key _ hx' (.inl rfl)
    · exact key _ hx' (.inr rfl)
  · exact absurd h Bool.false_ne_true
  · obtain ⟨o, e⟩ := ho b hb
    exact Nat.ne_of_lt (Nat.lt_of_lt_of_le (Heap.lt_size e) hC)
  · exact (hf b hb).2.2.2.2.1 x c (sub x c e)
  · rcases (hf b hb).2.2.2.1 with z | z
    · exact I.ok.noex b o e z
    · exact absurd (Nat.lt_of_lt_of_le (Heap.lt_size e) (Nat.le_trans I.ok.bsz z)) (Nat.lt_irrefl _)
  · rcases List.mem_cons.mp (I.stkSub b hs) with z | z
    · exact (hf b hb).2.1 z
    · exact (hf b hb).2.2.1 z
theorem blk_run {elt target iter : Expr} {ifs : List Expr} {scope : Scope} {pos : Pos} {cl : List (Str × Addr)} {own frn : List Str} {js : List Nat} {g : TG} {tc : TT} {te : TE} {Q : VK} {it : Addr} {fp : List Addr} {tn : Nat → Heap → Prop} {J : It}
    {RR : Value → Addr → Result → Shared → Prop} (hc : X.calm = true) (B : BlkOk X scope cl) (hfr : FrOk X frn js) (hloc : ∀ x ∈ frn, scope.names.lookup x ≠ some .local)
    (hg : ∀ C s₀ H₀ ex, PG (X.blk (own ++ frn) scope cl C s₀ H₀ ex) target g) (hi : ∀ C s₀ H₀ ex, PIf (X.blk (own ++ frn) scope cl C s₀ H₀ ex) ifs tc) (he : ∀ C s₀ H₀ ex, PE (X.blk (own ++ frn) scope cl C s₀ H₀ ex) elt te)
    (I : Inv X pins σ H1 s₂) (T : Turn X.prog X.w X.K target J fp it tn) (st0 : tn 0 s₂.heap) (hf : ∀ b ∈ fp, FpOk X pins H1 b) (hq : LcTurns g tc te (blkSt own.length js σ) J H1 Q)
    (fin : ∀ D C s' H' m, s₂.heap.objs.size ≤ C → Inv X pins σ H' s' → s'.heap.Ns C m → FpOk X pins H' C → Q (.ref D) H' → RR (.ref D) C (.ok .next) s') :
    wpAny (model X.prog X.w) X.A (newList []) (fun acc s₃ => wpAny (model X.prog X.w) X.A (newFunctionEnv scope X.env.globals cl [] X.env.qual none .none (some X.env)) (fun cenv s₄ =>
      codeAny (model X.prog X.w) X.A (.compStart (.ListComp elt [⟨target, iter, ifs, 0⟩] scope pos) 0 (.ref it) acc { cenv with scope := relabel scope X.env }) (RR acc cenv.locals) s₄) E s₃) E s₂ := by
  have sub := clo_sub scope.names [] cl B.clo (fun x c e => by cases e)
  refine wpAny_newObj_type (wpAny_newFunctionEnv B.cell (by intro y hy; simp at hy) (fun h₁ hns₁ hsb₁ => ?_) B.kind)
  dsimp only at hns₁ hsb₁ ⊢
  generalize hH2 : s₂.heap.push { cls := .type "list", dict := none, data := .seq ([] : List Value).toArray } = H2 at hns₁ hsb₁ ⊢
  have hC : H2.objs.size = s₂.heap.objs.size + 1 := by rw [← hH2, Heap.size_push]
  have hDC : s₂.heap.objs.size ≠ H2.objs.size := by rw [hC]; exact Nat.ne_of_lt (Nat.lt_succ_self _)
  have hCle : s₂.heap.objs.size ≤ H2.objs.size := by rw [hC]; exact Nat.le_succ _
  have below : ∀ b, b < s₂.heap.objs.size → b ≠ H2.objs.size ∧ b ≠ s₂.heap.objs.size := fun b hb => ⟨by rw [hC]; exact Nat.ne_of_lt (Nat.lt_succ_of_lt hb), Nat.ne_of_lt hb⟩
  have old : ∀ b o, s₂.heap.get? b = some o → h₁.get? b = some o := fun b o e => hsb₁.extBut b o (below b (Heap.lt_size e)).1 (Heap.get?_push_of_some _ (hH2 ▸ Heap.get?_push_of_some _ e))
  have hacc : h₁.get? s₂.heap.objs.size = some { cls := .type "list", dict := none, data := .seq ([] : List Value).toArray } := hsb₁.extBut _ _ hDC (Heap.get?_push_of_some _ (hH2 ▸ Heap.get?_push_size _ rfl))
  have hfo : ∀ b ∈ fp, ∃ o, s₂.heap.get? b = some o ∧ ∀ v, o.data ≠ .cell v := T.obj 0 _ st0
  have D0 : H1 s₂.heap.objs.size = none := I.hok.fresh (Nat.le_refl _)
  have C0 : H1 H2.objs.size = none := I.hok.fresh hCle
  obtain ⟨W, ⟨m0, w0⟩, turn⟩ := hq _ D0
  have okX : (X.blk (own ++ frn) scope cl H2.objs.size s₂ H1 fp).Ok := I.blkOk (N' := own ++ frn) B hCle hf fun b hb => let ⟨o, e, _⟩ := hfo b hb; ⟨o, e⟩
  have I0 : Inv (X.blk (own ++ frn) scope cl H2.objs.size s₂ H1 fp) [] (blkSt own.length js σ) (upd H1 s₂.heap.objs.size (.lst [])) { s₂ with heap := h₁, toks := s₂.toks + ([] : List (Str × Value)).length } := by
    obtain ⟨m, hn, hl⟩ := id I.loc
    refine ⟨okX, rfl, I.bare, Un.laid old (Nat.le_refl _) D0, ⟨_, hns₁, fun i x v e1 e2 e3 => ?_⟩, fun x c e => ?_, ?_, fun x c e => ?_, fun p hp => ?_, ?_, ?_⟩
    · have e1 : (own ++ frn)[i]? = some x := e1
      unfold blkSt at e2
      by_cases hik : i < own.length
      · rw [List.getElem?_append_left (by simpa using hik), List.getElem?_replicate, if_pos hik] at e2
        cases e2
      · rw [List.getElem?_append_right (by simpa using hik), List.length_replicate, List.getElem?_map] at e2
        rw [List.getElem?_append_right (by omega)] at e1
        obtain ⟨j, hj, hNj, hk⟩ := hfr.get e1
        rw [hj] at e2
        have e2' : (σ[j]?).join = some v := Option.some.inj e2
        have e2'' : σ[j]? = some (some v) := by
          cases q : σ[j]? with
          | none => rw [q] at e2'; cases e2'
          | some o => rw [q] at e2'; cases o with
            | none => cases e2'
            | some y => have : y = v := Option.some.inj e2'; rw [this]
        obtain ⟨u, r, lk⟩ := hl j x v hNj e2'' (hk.elim (fun z => .inr (.inl z)) fun z => .inr (.inr z))
        refine ⟨u, r, ?_⟩
        rcases lk with ⟨k1, _⟩ | ⟨_, c, hcl, hcell⟩
        · rcases hk with z | z <;> (rw [k1] at z; cases z)
        · have hx3 : (compEnvC scope cl H2.objs.size X.env).kindOf x = some .local ∨ (compEnvC scope cl H2.objs.size X.env).kindOf x = some .cell ∨ (compEnvC scope cl H2.objs.size X.env).kindOf x = some .free := e3
          rcases hx3 with z | z
          · exfalso
            have z' : (scope.names.map fun (n, k) => if (k == NameKind.free && X.env.scope.kind == .function && X.env.kindOf n == some .cell) then (n, NameKind.cell) else (n, k)).lookup x = some .local := z
            rcases relabel_kind z' with q | ⟨q, _⟩
            · exact hloc x (List.mem_of_getElem? e1) (B.names _ q rfl)
            · cases q
          · obtain ⟨c', hc'⟩ := okX.has x z
            have q := sub x c' hc'
            rw [hcl] at q
            have q' : c = c' := Option.some.inj q
            subst q'
            refine .inr ⟨z, c, hc', ?_⟩
            obtain ⟨o, ho, hd⟩ := hcell
            exact ⟨o, old _ _ ho, hd⟩
    · obtain ⟨v, o, ho, hd⟩ := I.cell x c (sub x c e)
      exact ⟨v, o, old _ _ ho, hd⟩
    · show upd H1 _ _ H2.objs.size = none
      rw [upd_ne (Ne.symm hDC)]; exact C0
    · obtain ⟨v, o, ho, hd⟩ := I.cell x c (sub x c e)
      rw [upd_ne (below c (Heap.lt_size ho)).2]; exact I.freeC x c (sub x c e)
    · cases hp
    · exact I.hok.laid old (Nat.le_refl _) ⟨Nat.zero_le _, [], _, .nil, hacc⟩
    · unfold blkSt
      show _ = (own ++ frn).length
      rw [List.length_append, List.length_append, List.length_replicate, List.length_map, hfr.len]
  -- the iterator's objects in the block
  have fpx : ∀ {H : Hp}, (∀ b ∈ fp, H b = none) → ∀ b ∈ fp, FpOk (X.blk (own ++ frn) scope cl H2.objs.size s₂ H1 fp) [] H b := fun {H} hn b hb => by
    obtain ⟨f0, f1, f2, f3, f4, f5⟩ := hf b hb
    obtain ⟨o, e, _⟩ := hfo b hb
    refine ⟨hn b hb, (below b (Heap.lt_size e)).1, fun z => ?_, .inl hb, fun x c e => f4 x c (sub x c e), fun p hp => by cases hp⟩
    rcases List.mem_cons.mp (I.stkSub b z) with z | z
    · exact f1 z
    · exact f2 z
  have st1 : tn 0 h₁ := T.keep _ _ _ st0 fun b _ o e => old b o e
  have fr0 : ∀ b ∈ fp, upd H1 s₂.heap.objs.size (.lst []) b = none := fun b hb => by
    obtain ⟨o, e, _⟩ := hfo b hb
    rw [upd_ne (below b (Heap.lt_size e)).2]; exact (hf b hb).1
  have loop : codeAny (model X.prog X.w) X.A (.compLoop (.ListComp elt [⟨target, iter, ifs, 0⟩] scope pos) 0 (.ref it) (.ref s₂.heap.objs.size) (compEnvC scope cl H2.objs.size X.env))
      (RR (.ref s₂.heap.objs.size) H2.objs.size) { s₂ with heap := h₁, toks := s₂.toks + ([] : List (Str × Value)).length } := by
    refine compLoop_go (fun n s' => ∃ i ys σ1 H, Inv (X.blk (own ++ frn) scope cl H2.objs.size s₂ H1 fp) [] σ1 H s' ∧ tn i s'.heap ∧ (∀ b ∈ fp, H b = none) ∧ W i n ys σ1 H) ?_ m0 ⟨0, [], _, _, I0, st1, fr0, w0⟩
    rintro n s3 ⟨i, ys, σ3, H3, I3, st3, fr3, w3⟩
    obtain ⟨hD3, hsz, alt⟩ := turn i n ys σ3 H3 w3
    rcases alt with ⟨stop, qn⟩ | ⟨go, step⟩
    · refine thn (T.done (X.blk (own ++ frn) scope cl H2.objs.size s₂ H1 fp) rfl rfl rfl hc i [] s3 σ3 H3 _ I3 (fpx fr3) st3 stop) fun r s4 ⟨hr, I4⟩ => ?_
      subst hr
      obtain ⟨m, hn, _⟩ := id I4.loc
      have hch : ∀ b ∈ fp, (b ∈ X.ex ∨ X.s₀.heap.objs.size ≤ b) ∧ b ≠ X.env.locals ∧ (∀ x c, X.env.cells.lookup x = some c → c ≠ b) ∧ ∀ p ∈ X.pn ++ pins, p.1 ≠ b := fun b hb => by
        obtain ⟨f0, f1, f2, f3, f4, f5⟩ := hf b hb
        exact ⟨f3, f1, f4, f5⟩
      have IX : Inv X pins σ H3 s4 := I.call' I4.os I4.base I4.hok I4.bare hch
      exact fin _ _ s4 H3 m hCle IX hn (I.fpOk hCle I4.free) qn
    · refine thn (T.item (X.blk (own ++ frn) scope cl H2.objs.size s₂ H1 fp) rfl rfl rfl hc i [] s3 σ3 H3 _ I3 (fpx fr3) st3 go) fun r s4 ⟨u, hr, h4⟩ => ?_
      subst hr
      refine thn h4 fun _ s5 ⟨x, H5, I5, r5, y5, st5, fr5⟩ => ?_
      have I5' := I5.pinned (fpx fr5) (T.obj _ _ st5)
      refine thn (hg _ _ _ _ _ s5 σ3 H5 x u _ I5' r5 (step x H5 y5)) fun _ s6 ⟨σ6, H6, I6, q6⟩ => ?_
      refine thn (hi _ _ _ _ _ s6 σ6 H6 _ I6 q6) fun b s7 ⟨H7, I7, q7⟩ => ?_
      have again : ∀ {ys' : List V} {H8 : Hp} {s8 : Shared} {m' : Nat}, Inv (X.blk (own ++ frn) scope cl H2.objs.size s₂ H1 fp) ([] ++ pinsAt fp s5.heap) σ6 H8 s8 → m' < n → W (i + 1) m' ys' σ6 H8 →
          ∃ m, m < n ∧ ∃ i ys σ1 H, Inv (X.blk (own ++ frn) scope cl H2.objs.size s₂ H1 fp) [] σ1 H s8 ∧ tn i s8.heap ∧ (∀ b ∈ fp, H b = none) ∧ W i m ys σ1 H := fun {ys' H8 s8 m'} I8 hm w8 => by
        refine ⟨m', hm, i + 1, ys', σ6, H8, I8.unpinned, T.keep _ _ _ st5 fun b hb o e => (I8.pin (b, o) (List.mem_append_right _ (List.mem_append_right _ (mem_pinsAt hb e)))).1, fun b hb => ?_, w8⟩
        obtain ⟨o, e, d⟩ := T.obj _ _ st5 b hb
        exact (I8.pin (b, o) (List.mem_append_right _ (List.mem_append_right _ (mem_pinsAt hb e)))).2.1
      cases b with
      | false =>
        rw [if_neg Bool.false_ne_true] at q7 ⊢
        obtain ⟨m', hm, w7⟩ := q7
        exact again I7 hm w7
      | true =>
        rw [if_pos rfl] at q7 ⊢
        refine thn (he _ _ _ _ _ s7 σ6 H7 _ I7 q7) fun v s8 ⟨y, H8, I8, r8, hD8, m', hm, w8⟩ => ?_
        refine thn (mt_append (X := X.blk (own ++ frn) scope cl H2.objs.size s₂ H1 fp) _ s8 σ6 H8 (.ref s₂.heap.objs.size) [y] _ [v] (fun _ H9 => W (i + 1) m' (ys ++ [y]) σ6 H9) I8 rfl (.cons r8 .nil) ⟨_, ys, y, rfl, rfl, hD8, hsz, w8⟩) fun _ s9 ⟨_, H9, I9, _, w9⟩ => ?_
        exact again I9 hm w9
  exact codeAny_compStart_list loop (T.self X.A 0 _ _ _ st1 loop)
end
def tLC (k : Nat) (js : List Nat) (wi : TI) (g : TG) (tc : TT) (te : TE) : TE := fun σ H Q => wi σ H fun J H1 => LcTurns g tc te (blkSt k js σ) J H1 Q
section
variable {X : Cx}
theorem pe_lc {elt target iter : Expr} {ifs : List Expr} {scope : Scope} {pos : Pos} {cl : List (Str × Addr)} {frn : List Str} {js : List Nat} {wi : TI} {g : TG} {tc : TT} {te : TE} (own : List Str) (hc : X.calm = true) (B : BlkOk X scope cl) (hfr : FrOk X frn js)
    (hloc : ∀ x ∈ frn, scope.names.lookup x ≠ some .local) (hi : PI X target iter wi)
    (hg : ∀ C s₀ H₀ ex, PG (X.blk (own ++ frn) scope cl C s₀ H₀ ex) target g) (hif : ∀ C s₀ H₀ ex, PIf (X.blk (own ++ frn) scope cl C s₀ H₀ ex) ifs tc) (he : ∀ C s₀ H₀ ex, PE (X.blk (own ++ frn) scope cl C s₀ H₀ ex) elt te)
    (hs : ∀ x, foldedSetIterable iter X.env x = pure x := by intro _; rfl) : PE X (.ListComp elt [⟨target, iter, ifs, 0⟩] scope pos) (tLC own.length js wi g tc te) := by
  intro pins s σ H Q I h
  rw [eval_ListComp]
  refine wpAny_comprehension_free (use := none) rfl hs (closureFor_clo B.clo) B.kind B.names (thn (hi pins s σ H _ I h) fun v s1 h1 => thn h1 fun itv s2 h2 => ?_)
  obtain ⟨it, fp, tn, J, H2, e, I2, T, st2, f2, hq⟩ := h2
  subst e
  refine blk_run (RR := fun acc C => compPost (model X.prog X.w) X.A X.xe none (EP X pins σ Q) acc C) hc B hfr hloc hg hif he I2 T st2 f2 hq ?_
  intro D C s' H' m hC I' hn fC q
  exact ⟨m, hn, fun h' sb => ⟨.ref D, H', I'.turned (t' := s'.toks) (fun b o hb e => (sb.2 b hb).trans e) fC.1 fC.2.1 fC.2.2.2.1 fC.2.2.2.2.1 fC.2.2.2.2.2, rfl, q⟩⟩
theorem ps_setLC {elt target iter : Expr} {ifs : List Expr} {scope : Scope} {pos py spos : Pos} {y : Str} {i : Nat} {cl : List (Str × Addr)} {frn : List Str} {js : List Nat} {wi : TI} {g : TG} {tc : TT} {te : TE} (own : List Str) (hN : X.N.Nodup) (hiy : X.N[i]? = some y)
    (hy : Loc X.env.scope y) (hc : X.calm = true) (B : BlkOk X scope cl) (hfr : FrOk X frn js)
    (hloc : ∀ x ∈ frn, scope.names.lookup x ≠ some .local) (hi : PI X target iter wi)
    (hg : ∀ C s₀ H₀ ex, PG (X.blk (own ++ frn) scope cl C s₀ H₀ ex) target g) (hif : ∀ C s₀ H₀ ex, PIf (X.blk (own ++ frn) scope cl C s₀ H₀ ex) ifs tc) (he : ∀ C s₀ H₀ ex, PE (X.blk (own ++ frn) scope cl C s₀ H₀ ex) elt te)
    (hsw : swapsWith (.ListComp elt [⟨target, iter, ifs, 0⟩] scope pos) (some (.Name y py)) spos.line X.env = pure true := by rfl)
    (hs : ∀ x, foldedSetIterable iter X.env x = pure x := by intro _; rfl)
    (hf : X.fn y = true ∨ X.env.scope.names.lookup y = some .local := by first | exact .inl rfl | exact .inr rfl | assumption) :
    PS X (.Assign [.Name y py] (.ListComp elt [⟨target, iter, ifs, 0⟩] scope pos) spos) (tAsg (tLC own.length js wi g tc te) (gName i)) := by
  intro pins s σ H D I h
  rw [exec_Assign_Name_used _ _ _ _ hsw]
  refine wpAny_bind (wpAny_standAt (wpAny_bind ?_))
  show wpAny _ X.A (do let _ ← comprehension (.ListComp elt [⟨target, iter, ifs, 0⟩] scope pos) scope X.env _ (newList []) false (eval iter X.env) (some (assign (.Name y py) X.env))) _ _ s
  refine wpAny_bind (wpAny_mono (wpAny_comprehension_free (use := some (assign (.Name y py) X.env)) (Q := fun _ s' => SP X pins D .next s') rfl hs (closureFor_clo B.clo) B.kind B.names
    (thn (hi pins s σ H _ I h) fun v s1 h1 => thn h1 fun itv s2 h2 => ?_)) (fun _ s' hq => wpAny_pure (wpAny_pure hq)) fun _ _ e => e)
  obtain ⟨it, fp, tn, J, H2, e, I2, T, st2, f2, hq⟩ := h2
  subst e
  refine blk_run (Q := fun x H1 => D.nx (σ.set i (some x)) H1) (RR := fun acc C => compPost (model X.prog X.w) X.A X.xe (some (assign (.Name y py) X.env)) (fun _ s' => SP X pins D .next s') acc C) hc B hfr hloc hg hif he I2 T st2 f2 hq ?_
  intro L C s' H' m hC I' hn fC q
  show wpAny _ X.A (assign (.Name y py) X.env (.ref L)) _ _ _
  refine wpAny_assign_Name (store_ok2 (v := .ref L) I' hN hiy hy rfl (fun s'' I'' ⟨a, sb, ha⟩ => ?_) hf)
  have hCa : C ≠ a := by
    rcases ha with z | z
    · rw [z]; exact fC.2.1
    · exact fun e => fC.2.2.2.2.1 y a z e.symm
  exact ⟨m, hn.sameBut sb hCa, fun h' sb' => ⟨_, H', I''.turned (t' := s''.toks) (fun b o hb e => (sb'.2 b hb).trans e) fC.1 fC.2.1 fC.2.2.2.1 fC.2.2.2.2.1 fC.2.2.2.2.2, q⟩⟩
end
def It.Seq (J : It) (H1 : Hp) (xs : List V) : Prop :=
  ∀ H, Same H1 H → (∀ i x, xs[i]? = some x → J.go i H ∧ ∀ y H', J.yld i H y H' → H' = H ∧ y = x) ∧ ∀ i, xs.length ≤ i → J.stop i H
theorem seq_list {K : PySem.W.Frag} {a : Addr} {xs : List V} {H1 : Hp} (h : SqL K H1 a xs) : (Itl K a).Seq H1 xs := fun H s =>
  ⟨fun i x e => ⟨⟨xs, x, s.seq h, e⟩, fun y H' ⟨e1, e2⟩ => ⟨e1, Option.some.inj ((e2 xs (s.seq h)).symm.trans e)⟩⟩, fun i hi => ⟨xs, s.seq h, hi⟩⟩
theorem seq_range {H1 : Hp} {n : Nat} {lo : Int} : (Itr lo n).Seq H1 ((List.range n).map fun (k : Nat) => V.int (lo + (k : Int))) := fun H s => by
  refine ⟨fun i x e => ?_, fun i hi => ?_⟩
  · have hi : i < n := by
      have := (List.getElem?_eq_some_iff.mp e).1
      simpa using this
    rw [List.getElem?_map, List.getElem?_range hi] at e
    have e' : V.int (lo + (i : Int)) = x := Option.some.inj e
    exact ⟨hi, fun y H' ⟨e1, e2⟩ => ⟨e1, by rw [e2, e']⟩⟩
  · show n ≤ i
    simpa using hi
theorem Same.upd_new {H H' : Hp} {a : Addr} {o : HO} (h : Same H H') (hn : H a = none) : Same H (upd H' a o) := fun b u e => by
  rw [upd_ne (ne_of_none e hn)]; exact h b u e
theorem lc_one {J : It} {H1 : Hp} {xs : List V} {js : List Nat} {σ : St} {tc : TT} {te : TE} {Q : VK} (hJ : J.Seq H1 xs) (hl : xs.length < sizeLine) (p : V → Bool) (f : V → V)
    (hc : ∀ x ∈ xs, ∀ H, Same H1 H → ∀ R : Bool → Hp → Prop, (∀ H', Same H H' → R (p x) H') → tc (some x :: js.map fun j => (σ[j]?).join) H R)
    (he : ∀ x ∈ xs, p x = true → ∀ H, Same H1 H → ∀ R : VK, (∀ H', Same H H' → R (f x) H') → te (some x :: js.map fun j => (σ[j]?).join) H R)
    (q : ∀ D H, H1 D = none → Same H1 H → H D = some (.lst ((xs.filter p).map f)) → Q (.ref D) H) : LcTurns (gName 0) tc te (blkSt 1 js σ) J H1 Q := by
  intro D hD
  refine ⟨fun i m ys σ1 H => m = xs.length - i ∧ i ≤ xs.length ∧ (∃ o, σ1 = o :: js.map fun j => (σ[j]?).join) ∧ ys = ((xs.take i).filter p).map f ∧ Same H1 H ∧ H D = some (.lst ys),
    ⟨xs.length, by simp, Nat.zero_le _, ⟨none, rfl⟩, by simp, (Same.refl H1).upd_new hD, upd_same⟩, ?_⟩
  rintro i m ys σ1 H ⟨rfl, hi, ⟨o, rfl⟩, rfl, sH, hL⟩
  have hlen : (((xs.take i).filter p).map f).length < sizeLine := by
    rw [List.length_map]
    have h1 := List.length_filter_le p (xs.take i)
    have h2 : (xs.take i).length ≤ xs.length := by rw [List.length_take]; omega
    omega
  refine ⟨hL, hlen, ?_⟩
  by_cases hlt : i < xs.length
  · have e : xs[i]? = some xs[i] := by simp [hlt]
    obtain ⟨go, yl⟩ := (hJ H sH).1 i xs[i] e
    refine .inr ⟨go, fun x H' y => ?_⟩
    obtain ⟨e1, e2⟩ := yl x H' y
    subst e1 e2
    have hm : xs[i] ∈ xs := List.getElem_mem hlt
    have htk : xs.take (i + 1) = xs.take i ++ [xs[i]] := by rw [List.take_add_one, e]; rfl
    show tc (some xs[i] :: js.map fun j => (σ[j]?).join) H' _
    refine hc xs[i] hm H' sH _ fun H3 s3 => ?_
    cases hp : p xs[i] with
    | false =>
      rw [if_neg Bool.false_ne_true]
      refine ⟨xs.length - (i + 1), by omega, rfl, hlt, ⟨_, rfl⟩, ?_, sH.trans s3, s3 _ _ hL⟩
      rw [htk, List.filter_append]; simp [hp]
    | true =>
      rw [if_pos rfl]
      refine he xs[i] hm hp H3 (sH.trans s3) _ fun H4 s4 => ?_
      refine ⟨s4 _ _ (s3 _ _ hL), xs.length - (i + 1), by omega, rfl, hlt, ⟨_, rfl⟩, ?_, ((sH.trans s3).trans s4).upd_new hD, upd_same⟩
      rw [htk, List.filter_append]; simp [hp]
  · have e : i = xs.length := by omega
    subst e
    refine .inl ⟨(hJ H sH).2 _ (Nat.le_refl _), q D H hD sH ?_⟩
    rw [List.take_length] at hL; exact hL
end L2

namespace L2
open PySem PySem.Spec PyProof.Rows
section
variable {X : Cx}
def CBig (i j : Int) : Prop := i.natAbs < 2 ^ 1000 ∧ j.natAbs < 2 ^ 1000
theorem op_mulZ : OpR X (binaryOp .Mult) (rI CBig fun i j => .int (i * j)) := opI fun _ _ _ _ _ _ _ hc q =>
  mul_int q (IntMulOk.of_bits (Nat.le_trans (intBits_le_iff.mpr hc.1) (by decide)) (Nat.le_trans (intBits_le_iff.mpr hc.2) (by decide)))
def CDivZ (_ j : Int) : Prop := 0 < j ∧ j < 2 ^ 1000
theorem op_fdivZ : OpR X (binaryOp .FloorDiv) (rI CDivZ fun i j => .int (i / j)) := opI fun i j _ _ _ _ _ hc q => by
  have h1 : (0 : Int) < j := hc.1
  have h2 : j < 2 ^ 1000 := hc.2
  have h3 : j.natAbs < 2 ^ 1000 := by
    have e : ((j.natAbs : Nat) : Int) = j := Int.natAbs_of_nonneg (by omega)
    have e2 : ((2 ^ 1000 : Nat) : Int) = (2 : Int) ^ 1000 := by rw [Int.natCast_pow]; rfl
    omega
  refine floordiv_int (by omega) (by rw [Int.fdiv_eq_ediv_of_nonneg i (by omega)]; exact q) (.inl (PyProof.noPylong_of_log2 ?_))
  have h4 : j.natAbs ≠ 0 := by omega
  exact Nat.lt_of_lt_of_le ((Nat.log2_lt h4).mpr h3) (by decide)
theorem op_is_bl : OpR X (compareOp .Is) (fun x y H Q => ∃ a b, x = .bl a ∧ y = .bl b ∧ Q (.bl (a == b)) H) := by
  intro pins s σ H x y v u Q I rx ry h
  obtain ⟨a, b, rfl, rfl, q⟩ := h
  cases rx; cases ry
  exact is_bool (fin_bl I q rfl)
theorem op_isnot_bl : OpR X (compareOp .IsNot) (fun x y H Q => ∃ a b, x = .bl a ∧ y = .bl b ∧ Q (.bl (a != b)) H) := by
  intro pins s σ H x y v u Q I rx ry h
  obtain ⟨a, b, rfl, rfl, q⟩ := h
  cases rx; cases ry
  exact isnot_bool (fin_bl I q rfl)
def rIsi (K : PySem.W.Frag) : List V → Hp → VK → Prop := fun xs H Q => ∃ x t c b, xs = [x, .ty c] ∧ TyOf K H x t ∧ PySem.W.kitOne K t (.type c) = some b ∧ Q (.bl b) H
theorem call_isi : CallR X (.builtin "isinstance") (rIsi X.K) := by
  intro pins s σ H xs us Q I r h
  obtain ⟨x, t, c, b, rfl, ty, e, q⟩ := h
  obtain ⟨u, w', rfl, ru, rw'⟩ := vals2 r
  obtain rfl : w' = Value.type c := rw'
  exact isinst_ok I ru ty e fun tk => ⟨.bl b, H, I.tok tk, rfl, q⟩
def eqVs : List V → List V → Bool
  | [], [] => true
  | x :: xs, y :: ys => eqV x y && eqVs xs ys
  | _, _ => false
theorem eqVs_len : ∀ {xs ys : List V}, xs.length ≠ ys.length → eqVs xs ys = false
  | [], [], h => absurd rfl h
  | [], _ :: _, _ => rfl
  | _ :: _, [], _ => rfl
  | x :: xs, y :: ys, h => by
    have h' : xs.length ≠ ys.length := fun e => h (by rw [List.length_cons, List.length_cons, e])
    show (eqV x y && eqVs xs ys) = false
    rw [eqVs_len h', Bool.and_false]
theorem eqVs_range : ∀ {xs ys : List V}, xs.length = ys.length → (List.range xs.length).all (fun j => eqV (xs.getD j .non) (ys.getD j .non)) = eqVs xs ys
  | [], [], _ => rfl
  | [], _ :: _, h => by cases h
  | _ :: _, [], h => by cases h
  | x :: xs, y :: ys, h => by
    have h' : xs.length = ys.length := by simpa using h
    rw [List.length_cons, List.range_succ_eq_map, List.all_cons, List.all_map]
    show (eqV x y && (List.range xs.length).all (fun j => eqV (xs.getD j .non) (ys.getD j .non))) = (eqV x y && eqVs xs ys)
    rw [eqVs_range h']
theorem flat_ints (xs : List Int) : (xs.map V.int).all flatV = true := by
  rw [List.all_eq_true]; intro v hv
  obtain ⟨i, _, rfl⟩ := List.mem_map.mp hv
  rfl
def rEqL (K : PySem.W.Frag) (neg : Bool) : R2 := fun x y H Q => ∃ a b xs ys, x = .ref a ∧ y = .ref b ∧ SqL K H a xs ∧ SqL K H b ys ∧ xs.all flatV = true ∧ ys.all flatV = true ∧ Q (.bl (if neg then !eqVs xs ys else eqVs xs ys)) H
theorem eqAt_items {A : Around} {s : Shared} {xs ys : List V} {us vs : List Value} (r1 : Vals xs us) (r2 : Vals ys vs) (f1 : xs.all flatV = true) (f2 : ys.all flatV = true) (j : Nat) (h1 : j < us.toArray.size) (h2 : j < vs.toArray.size) :
    SeqAt.EqAt A s us.toArray[j] vs.toArray[j] (eqV (xs.getD j .non) (ys.getD j .non)) := by
  have l1 := r1.length
  have l2 := r2.length
  rw [List.size_toArray] at h1 h2
  have e1 : xs[j]? = some (xs[j]'(by omega)) := by simp [show j < xs.length by omega]
  have e2 : ys[j]? = some (ys[j]'(by omega)) := by simp [show j < ys.length by omega]
  obtain ⟨u, hu, ru⟩ := r1.get e1
  obtain ⟨v, hv, rv⟩ := r2.get e2
  have hu' : us.toArray[j] = u := by
    have := List.getElem?_eq_some_iff.mp hu
    simpa using this.2
  have hv' : vs.toArray[j] = v := by
    have := List.getElem?_eq_some_iff.mp hv
    simpa using this.2
  rw [hu', hv', List.getD_eq_getElem?_getD, List.getD_eq_getElem?_getD, e1, e2]
  exact eqAt_V ru rv (List.all_eq_true.mp f1 _ (List.getElem_mem _)) (List.all_eq_true.mp f2 _ (List.getElem_mem _))
theorem op_eqL (hu : X.A.units < cLine) : OpR X (compareOp .Eq) (rEqL X.K false) := by
  intro pins s σ H x y v u Q I rx ry h
  obtain ⟨a, b, xs, ys, rfl, rfl, ha, hb, f1, f2, q⟩ := h
  cases rx; cases ry
  obtain ⟨us, r1, p1, _⟩ := I.list ha
  obtain ⟨vs, r2, p2, _⟩ := I.list hb
  have l1 := r1.length
  have l2 := r2.length
  by_cases hl : xs.length = ys.length
  · refine SeqAt.eq_listAt p1.isList p2.isList (by simp only [List.size_toArray]; omega) hu (fun j h1 h2 => eqAt_items r1 r2 f1 f2 j h1 h2) ⟨.bl _, H, I, rfl, ?_⟩
    rw [List.size_toArray, ← l1, eqVs_range hl]; exact q
  · refine SeqAt.eq_list_lengthsAt p1.isList p2.isList (by simp only [List.size_toArray, bne_iff_ne, ne_eq]; omega) hu ⟨.bl _, H, I, rfl, ?_⟩
    have e := eqVs_len hl
    rw [if_neg Bool.false_ne_true, e] at q; exact q
theorem op_neL (hu : X.A.units < cLine) : OpR X (compareOp .NotEq) (rEqL X.K true) := by
  intro pins s σ H x y v u Q I rx ry h
  obtain ⟨a, b, xs, ys, rfl, rfl, ha, hb, f1, f2, q⟩ := h
  cases rx; cases ry
  obtain ⟨us, r1, p1, _⟩ := I.list ha
  obtain ⟨vs, r2, p2, _⟩ := I.list hb
  have l1 := r1.length
  have l2 := r2.length
  by_cases hl : xs.length = ys.length
  · refine SeqAt.RcNeAt.lists p1.isList p2.isList (by simp only [List.size_toArray]; omega) hu (fun j h1 h2 => eqAt_items r1 r2 f1 f2 j h1 h2) _ _ _ _ ⟨.bl _, H, I, rfl, ?_⟩
    rw [List.size_toArray, ← l1, eqVs_range hl]; exact q
  · refine SeqAt.RcNeAt.lists_lengths p1.isList p2.isList (by simp only [List.size_toArray, bne_iff_ne, ne_eq]; omega) hu _ _ _ _ ⟨.bl _, H, I, rfl, ?_⟩
    have e := eqVs_len hl
    rw [if_pos rfl, e] at q; exact q
theorem Vals.bools : ∀ {bs : List Bool} {us : List Value}, Vals (bs.map V.bl) us → us = bs.map Value.bool
  | [], _, .nil => rfl
  | b :: bs, _ :: _, .cons r t => by
    cases (show _ = Value.bool b from r)
    rw [List.map_cons, Vals.bools t]
def rRng1 : List V → Hp → VK → Prop := fun vs H Q => ∃ j : Int, vs = [.int j] ∧ ∀ p, H p = none → Q (.ref p) (upd H p (.rng 0 j))
theorem call_rng1 : CallR X (.type "range") rRng1 := by
  intro pins s σ H xs us Q I r h
  obtain ⟨j, rfl, q⟩ := h
  obtain ⟨u, rfl, t, rfl⟩ := vals1 r
  refine call_range_1 ?_
  exact ⟨.ref s.heap.objs.size, _, I.laid (fun b ob e => Heap.get?_push_of_some _ e) (Nat.le_refl _) (show ObjOk X.prog X.w _ _ _ (.rng 0 j) from ⟨_, _, _, Heap.get?_push_size _ rfl⟩), rfl, q _ (I.hok.fresh (Nat.le_refl _))⟩
def rngV (lo : Int) (n : Nat) : List V := (List.range n).map fun (k : Nat) => V.int (lo + (k : Int))
theorem vals_items {lo : Int} {n : Nat} {acc : Array Value} (h : ItemsOf (fun (i : Nat) v => ∃ t, v = Value.int (lo + (i : Int) * 1) t) acc n) : Vals (rngV lo n) acc.toList := by
  obtain ⟨hs, hi⟩ := h
  have key : ∀ (xs : List Value) (m : Nat), (∀ j v, xs[j]? = some v → ∃ t, v = Value.int (lo + ((m + j : Nat) : Int)) t) → Vals ((List.range' m xs.length).map fun (k : Nat) => V.int (lo + (k : Int))) xs := by
    intro xs
    induction xs with
    | nil => intro m _; exact .nil
    | cons x r ih =>
      intro m hx
      rw [List.length_cons, List.range'_succ, List.map_cons]
      refine .cons ?_ (ih (m + 1) fun j v e => ?_)
      · obtain ⟨t, e⟩ := hx 0 x rfl
        exact ⟨t, by simpa using e⟩
      · obtain ⟨t, e'⟩ := hx (j + 1) v (by simpa using e)
        exact ⟨t, by rw [e']; congr 2; omega⟩
  have := key acc.toList 0 fun j v e => by
    obtain ⟨t, e'⟩ := hi j v (by simpa using e)
    exact ⟨t, by rw [e', Int.mul_one, Nat.zero_add]⟩
  rw [Array.length_toList, hs, ← List.range_eq_range'] at this
  exact this
def rListRng : List V → Hp → VK → Prop := fun vs H Q => ∃ a lo hi, vs = [.ref a] ∧ H a = some (.rng lo hi) ∧ (-(2 ^ 62) ≤ lo ∧ lo < 2 ^ 62 ∧ -(2 ^ 62) ≤ hi ∧ hi < 2 ^ 62) ∧ (hi - lo).toNat ≤ 2 ^ 20 ∧ ∀ p, H p = none → Q (.ref p) (upd H p (.lst (rngV lo (hi - lo).toNat)))
theorem call_listRng (hc : X.calm = true) : CallR X (.type "list") rListRng := by
  intro pins s σ H xs us Q I r h
  obtain ⟨a, lo, hi, rfl, ha, ⟨h1, h2, h3, h4⟩, hn, q⟩ := h
  obtain ⟨u, rfl, ru⟩ := vals1 r
  cases ru
  obtain ⟨t, u, v, e⟩ := (show ObjOk X.prog X.w H s.heap a (.rng lo hi) from I.hok a _ ha)
  refine call_list_range (n := (hi - lo).toNat) (I.ok.hd hc) e (small_one h1 h2 h3 h4) (by rw [rangeSize_one]; split <;> omega) (by omega) fun h' tk acc c hk hS hacc => ?_
  have hv := vals_items hacc
  have hlen : (rngV lo (hi - lo).toNat).length ≤ sizeLine := by
    unfold rngV
    rw [List.length_map, List.length_range]
    exact Nat.le_trans hn (by decide)
  exact ⟨.ref s.heap.objs.size, _, I.laid hk (Nat.le_refl _) (show ObjOk X.prog X.w _ _ _ (.lst (rngV lo (hi - lo).toNat)) from ⟨hlen, acc.toList, c, hv, by simpa using hS⟩), rfl, q _ (I.hok.fresh (Nat.le_refl _))⟩
theorem Inv.turnL {pins : List (Addr × Obj)} {σ : St} {H : Hp} {s : Shared} {h' : Heap} {t' : Nat} {ch : List Addr} (I : Inv X pins σ H s) (hf : ∀ b ∈ ch, FpOk X pins H b) (k : ∀ b o, b ∉ ch → s.heap.get? b = some o → h'.get? b = some o) :
    Inv X pins σ H { s with heap := h', toks := t' } := by
  have nch : ∀ b u, H b = some u → b ∉ ch := fun b u e z => by rw [(hf b z).1] at e; cases e
  refine I.step (g' := s.gens) (d' := s.drawn) (ch := ch) (fun b hb => ?_) (fun b o _ _ hc e _ => k b o hc e) (fun b o _ _ hc e _ => ⟨o.slots, k b o hc e⟩) (fun _ _ _ _ n => n) (fun b o hc e => ⟨o, k b o hc e⟩) (fun _ _ e => e) (fun _ _ _ e => e)
    (fun b ps e => ⟨#[], by rw [e]; simp⟩) (fun m hm => ?_) (fun b u e => ?_) I.bare
  · obtain ⟨_, f1, _, f3, f4, f5⟩ := hf b hb
    exact ⟨f3, f1, f4, f5⟩
  · obtain ⟨o, es, ep, ho, r⟩ := hm
    exact ⟨o, es, ep, k _ o (fun z => (hf _ z).2.1 rfl) ho, r⟩
  · refine (I.hok b u e).stay (fun c v hc q => k c v ?_ q) (fun _ q => q) fun _ _ q => q
    rcases hc with z | z
    · rw [z]; exact nch b u e
    · exact nch c _ z
theorem Inv.turnNew {pins : List (Addr × Obj)} {σ : St} {H : Hp} {s : Shared} {h' : Heap} {t' : Nat} {ch : List Addr} {T : Addr} {o' : HO} (I : Inv X pins σ H s) (hf : ∀ b ∈ ch, FpOk X pins H b)
    (k : ∀ b o, b ∉ ch → s.heap.get? b = some o → h'.get? b = some o) (hk2 : ∀ b o, s.heap.get? b = some o → ∃ o', h'.get? b = some o') (hT : s.heap.objs.size ≤ T) (new : ObjOk X.prog X.w (upd H T o') h' T o') :
    Inv X pins σ (upd H T o') { s with heap := h', toks := t' } := by
  have nch : ∀ b u, H b = some u → b ∉ ch := fun b u e z => by rw [(hf b z).1] at e; cases e
  have hTn : H T = none := I.hok.fresh hT
  have neT : ∀ b o, s.heap.get? b = some o → b ≠ T := fun b o e => Nat.ne_of_lt (Nat.lt_of_lt_of_le (Heap.lt_size e) hT)
  refine I.step (g' := s.gens) (d' := s.drawn) (ch := ch) (fun b hb => ?_) (fun b o _ _ hc e _ => k b o hc e) (fun b o _ _ hc e _ => ⟨o.slots, k b o hc e⟩) (fun b o _ e n => by rw [upd_ne (neT b o e)]; exact n) (fun b o hc e => ⟨o, k b o hc e⟩)
    (fun b xs e => by rw [upd_ne (ne_of_none e hTn)]; exact e) (fun b u xs e => by rw [upd_ne (ne_of_none e hTn)]; exact e) (fun b ps e => ⟨#[], by rw [upd_ne (ne_of_none e hTn), e]; simp⟩) (fun m hm => ?_) (fun b u e => ?_) I.bare
  · obtain ⟨_, f1, _, f3, f4, f5⟩ := hf b hb
    exact ⟨f3, f1, f4, f5⟩
  · obtain ⟨o, es, ep, ho, r⟩ := hm
    exact ⟨o, es, ep, k _ o (fun z => (hf _ z).2.1 rfl) ho, r⟩
  · by_cases hb : b = T
    · subst hb; rw [upd_same] at e; cases e; exact new
    · rw [upd_ne hb] at e
      refine (I.hok b u e).stay (fun c v hc q => k c v ?_ q) (fun c q => by rw [upd_ne (ne_of_none q hTn)]; exact q) fun c xs q => by rw [upd_ne (ne_of_none q hTn)]; exact q
      rcases hc with z | z
      · rw [z]; exact nch b u e
      · exact nch c _ z
end
def Itz (K : PySem.W.Frag) (a b : Addr) : It :=
  ⟨fun i H => ∃ xs ys x y, SqL K H a xs ∧ SqL K H b ys ∧ xs[i]? = some x ∧ ys[i]? = some y,
   fun i H v H' => ∃ x y p, (∀ xs, SqL K H a xs → xs[i]? = some x) ∧ (∀ ys, SqL K H b ys → ys[i]? = some y) ∧ v = .ref p ∧ H p = none ∧ H' = upd H p (.tup [x, y]),
   fun i H => ∃ xs ys, SqL K H a xs ∧ SqL K H b ys ∧ (xs.length ≤ i ∨ ys.length ≤ i)⟩
section
variable {X : Cx}
def iZip (K : PySem.W.Frag) (ta : TA) : TI := fun σ H R => ta σ H fun vs H1 => ∃ a b, vs = [.ref a, .ref b] ∧ (∃ xs, SqL K H1 a xs) ∧ (∃ ys, SqL K H1 b ys) ∧ R (Itz K a b) H1
end
end L2

namespace L2
open PySem PySem.Spec PyProof.Rows
section
variable {X : Cx}
def nw (H : Hp) (o : HO) (Q : VK) : Prop := ∀ p H', H p = none → Same H H' → H' p = some o → Q (.ref p) H'
theorem same_upd {H : Hp} {a : Addr} {o : HO} (hn : H a = none) : Same H (upd H a o) := fun b u e => by rw [upd_ne (ne_of_none e hn)]; exact e
theorem nw.go {H : Hp} {o : HO} {Q : VK} (h : nw H o Q) (p : Addr) (hp : H p = none) : Q (.ref p) (upd H p o) := h p _ hp (same_upd hp) upd_same
def rAddX : R2 := fun x y H Q => match x, y with
  | .int i, .int j => Q (.int (i + j)) H
  | .str a, .str b => a.length + b.length ≤ sizeLine ∧ Q (.str (a ++ b)) H
  | .ref l, .ref b => ∃ xs zs, H l = some (.lst xs) ∧ H b = some (.lst zs) ∧ xs.length + zs.length ≤ sizeLine ∧ nw H (.lst (xs ++ zs)) Q
  | _, _ => False
theorem op_addX : OpR X (binaryOp .Add) rAddX := by
  intro pins s σ H x y v u Q I rx ry h
  cases x with
  | int i => cases y with
    | int j => exact op_add pins s σ H _ _ v u Q I rx ry ⟨_, _, rfl, rfl, h⟩
    | _ => exact False.elim h
  | str a => cases y with
    | str b => exact op_add_str pins s σ H _ _ v u Q I rx ry ⟨_, _, rfl, rfl, h.1, h.2⟩
    | _ => exact False.elim h
  | ref l => cases y with
    | ref b =>
      obtain ⟨xs, zs, h1, h2, h3, h4⟩ := h
      exact op_cat pins s σ H _ _ v u Q I rx ry ⟨_, _, xs, zs, rfl, rfl, h1, h2, h3, h4.go⟩
    | _ => exact False.elim h
  | _ => exact False.elim h
def rSubX : R2 := fun x y H Q => match x, y with
  | .int i, .int j => Q (.int (i - j)) H
  | _, _ => False
theorem op_subX : OpR X (binaryOp .Sub) rSubX := by
  intro pins s σ H x y v u Q I rx ry h
  cases x with
  | int i => cases y with
    | int j => exact op_sub pins s σ H _ _ v u Q I rx ry ⟨_, _, rfl, rfl, h⟩
    | _ => exact False.elim h
  | _ => exact False.elim h
def rMulX : R2 := fun x y H Q => match x, y with
  | .int i, .int j => CBig i j ∧ Q (.int (i * j)) H
  | .ref l, .int k => ∃ xs, H l = some (.lst xs) ∧ -(2 ^ 63) ≤ k ∧ k < 2 ^ 63 ∧ xs.length * k.toNat ≤ sizeLine ∧ nw H (.lst (List.replicate k.toNat xs).flatten) Q
  | _, _ => False
theorem op_mulX : OpR X (binaryOp .Mult) rMulX := by
  intro pins s σ H x y v u Q I rx ry h
  cases x with
  | int i => cases y with
    | int j => exact op_mulZ pins s σ H _ _ v u Q I rx ry ⟨_, _, rfl, rfl, h.1, h.2⟩
    | _ => exact False.elim h
  | ref l => cases y with
    | int k =>
      obtain ⟨xs, h1, h2, h3, h4, h5⟩ := h
      exact op_rep pins s σ H _ _ v u Q I rx ry ⟨_, _, xs, rfl, rfl, h1, h2, h3, h4, h5.go⟩
    | _ => exact False.elim h
  | _ => exact False.elim h
def rFdivX : R2 := fun x y H Q => match x, y with
  | .int i, .int j => (0 < j ∧ j < 2 ^ 1000) ∧ Q (.int (i / j)) H
  | _, _ => False
theorem op_fdivX : OpR X (binaryOp .FloorDiv) rFdivX := by
  intro pins s σ H x y v u Q I rx ry h
  cases x with
  | int i => cases y with
    | int j => exact op_fdivZ pins s σ H _ _ v u Q I rx ry ⟨_, _, rfl, rfl, h.1, h.2⟩
    | _ => exact False.elim h
  | _ => exact False.elim h
def rModX : R2 := fun x y H Q => match x, y with
  | .int i, .int j => 0 < j ∧ Q (.int (i % j)) H
  | _, _ => False
theorem op_modX : OpR X (binaryOp .Mod) rModX := by
  intro pins s σ H x y v u Q I rx ry h
  cases x with
  | int i => cases y with
    | int j => exact op_mod pins s σ H _ _ v u Q I rx ry ⟨_, _, rfl, rfl, h.1, h.2⟩
    | _ => exact False.elim h
  | _ => exact False.elim h
def rPowX : R2 := fun x y H Q => match x, y with
  | .int i, .int j => (0 ≤ j ∧ j ≤ 1000000 ∧ i.natAbs < 2 ^ 64) ∧ Q (.int (i ^ j.toNat)) H
  | _, _ => False
theorem op_powX : OpR X (binaryOp .Pow) rPowX := by
  intro pins s σ H x y v u Q I rx ry h
  cases x with
  | int i => cases y with
    | int j => exact op_pow pins s σ H _ _ v u Q I rx ry ⟨_, _, rfl, rfl, h.1, h.2⟩
    | _ => exact False.elim h
  | _ => exact False.elim h
def rCmpX (f : Int → Int → Bool) : R2 := fun x y H Q => match x, y with
  | .int i, .int j => Q (.bl (f i j)) H
  | _, _ => False
theorem op_cmpX {op : CmpOp} {f : Int → Int → Bool} (h0 : OpR X (compareOp op) (rI0 fun i j => .bl (f i j))) : OpR X (compareOp op) (rCmpX f) := by
  intro pins s σ H x y v u Q I rx ry h
  cases x with
  | int i => cases y with
    | int j => exact h0 pins s σ H _ _ v u Q I rx ry ⟨_, _, rfl, rfl, h⟩
    | _ => exact False.elim h
  | _ => exact False.elim h
abbrev rLtX : R2 := rCmpX fun i j => decide (i < j)
abbrev rGtX : R2 := rCmpX fun i j => decide (j < i)
theorem op_ltX : OpR X (compareOp .Lt) rLtX := op_cmpX op_lt
theorem op_gtX : OpR X (compareOp .Gt) rGtX := op_cmpX op_gt
def rEqX (K : PySem.W.Frag) : R2 := fun x y H Q => match x, y with
  | .int i, .int j => Q (.bl (decide (i = j))) H
  | .bl i, .bl j => Q (.bl (decide (i = j))) H
  | .str i, .str j => Q (.bl (decide (i = j))) H
  | .ref a, .ref b => ∃ xs ys, SqL K H a xs ∧ SqL K H b ys ∧ xs.all flatV = true ∧ ys.all flatV = true ∧ Q (.bl (eqVs xs ys)) H
  | _, _ => False
def rNeX (K : PySem.W.Frag) : R2 := fun x y H Q => match x, y with
  | .int i, .int j => Q (.bl (!decide (i = j))) H
  | .bl i, .bl j => Q (.bl (!decide (i = j))) H
  | .str i, .str j => Q (.bl (!decide (i = j))) H
  | .ref a, .ref b => ∃ xs ys, SqL K H a xs ∧ SqL K H b ys ∧ xs.all flatV = true ∧ ys.all flatV = true ∧ Q (.bl (!eqVs xs ys)) H
  | _, _ => False
theorem decV_int (i j : Int) : decide (V.int i = V.int j) = decide (i = j) := by
  by_cases e : i = j
  · subst e; simp
  · rw [decide_eq_false e]; exact decide_eq_false fun h => e (V.int.inj h)
theorem decV_bl (i j : Bool) : decide (V.bl i = V.bl j) = decide (i = j) := by
  by_cases e : i = j
  · subst e; simp
  · rw [decide_eq_false e]; exact decide_eq_false fun h => e (V.bl.inj h)
theorem decV_str (i j : Str) : decide (V.str i = V.str j) = decide (i = j) := by
  by_cases e : i = j
  · subst e; simp
  · rw [decide_eq_false e]; exact decide_eq_false fun h => e (V.str.inj h)
theorem op_eqX (hu : X.A.units < cLine) : OpR X (compareOp .Eq) (rEqX X.K) := by
  intro pins s σ H x y v u Q I rx ry h
  cases x with
  | int i => cases y with
    | int j => exact op_eq pins s σ H _ _ v u Q I rx ry ⟨rfl, by rw [decV_int]; exact h⟩
    | _ => exact False.elim h
  | bl i => cases y with
    | bl j => exact op_eq pins s σ H _ _ v u Q I rx ry ⟨rfl, by rw [decV_bl]; exact h⟩
    | _ => exact False.elim h
  | str i => cases y with
    | str j => exact op_eq pins s σ H _ _ v u Q I rx ry ⟨rfl, by rw [decV_str]; exact h⟩
    | _ => exact False.elim h
  | ref a => cases y with
    | ref b =>
      obtain ⟨xs, ys, h1, h2, h3, h4, h5⟩ := h
      exact op_eqL hu pins s σ H _ _ v u Q I rx ry ⟨_, _, xs, ys, rfl, rfl, h1, h2, h3, h4, h5⟩
    | _ => exact False.elim h
  | _ => exact False.elim h
theorem op_neX (hu : X.A.units < cLine) : OpR X (compareOp .NotEq) (rNeX X.K) := by
  intro pins s σ H x y v u Q I rx ry h
  cases x with
  | int i => cases y with
    | int j => exact op_ne pins s σ H _ _ v u Q I rx ry ⟨rfl, by rw [decV_int]; exact h⟩
    | _ => exact False.elim h
  | bl i => cases y with
    | bl j => exact op_ne pins s σ H _ _ v u Q I rx ry ⟨rfl, by rw [decV_bl]; exact h⟩
    | _ => exact False.elim h
  | str i => cases y with
    | str j => exact op_ne pins s σ H _ _ v u Q I rx ry ⟨rfl, by rw [decV_str]; exact h⟩
    | _ => exact False.elim h
  | ref a => cases y with
    | ref b =>
      obtain ⟨xs, ys, h1, h2, h3, h4, h5⟩ := h
      exact op_neL hu pins s σ H _ _ v u Q I rx ry ⟨_, _, xs, ys, rfl, rfl, h1, h2, h3, h4, h5⟩
    | _ => exact False.elim h
  | _ => exact False.elim h
def isV : V → V → Option Bool
  | .non, .non => some true
  | .bl _, .non => some false
  | .int _, .non => some false
  | .str _, .non => some false
  | .ref _, .non => some false
  | .bl a, .bl b => some (a == b)
  | _, _ => none
def rIsX (neg : Bool) : R2 := fun x y H Q => match isV x y with
  | some b => Q (.bl (b != neg)) H
  | none => False
theorem op_isX : OpR X (compareOp .Is) (rIsX false) := by
  intro pins s σ H x y v u Q I rx ry h
  cases x <;> cases y <;> first
    | exact False.elim h
    | exact op_isN pins s σ H _ _ v u Q I rx ry ⟨rfl, h⟩
    | exact op_is_bl pins s σ H _ _ v u Q I rx ry ⟨_, _, rfl, rfl, by simpa [rIsX, isV] using h⟩
theorem op_isnotX : OpR X (compareOp .IsNot) (rIsX true) := by
  intro pins s σ H x y v u Q I rx ry h
  cases x <;> cases y <;> first
    | exact False.elim h
    | exact op_notN pins s σ H _ _ v u Q I rx ry ⟨rfl, h⟩
    | exact op_isnot_bl pins s σ H _ _ v u Q I rx ry ⟨_, _, rfl, rfl, by simpa [rIsX, isV, bne] using h⟩
def Sq (K : PySem.W.Frag) (H : Hp) (a : Addr) (xs : List V) : Prop := SqL K H a xs ∨ SqT K H a xs
theorem Sq.l {K : PySem.W.Frag} {H : Hp} {a : Addr} {xs : List V} (h : H a = some (.lst xs)) : Sq K H a xs := .inl (.of h)
theorem Sq.t {K : PySem.W.Frag} {H : Hp} {a : Addr} {xs : List V} (h : H a = some (.tup xs)) : Sq K H a xs := .inr (.of h)
def rIxX (K : PySem.W.Frag) : R2 := fun x y H Q => match x, y with
  | .ref p, .int i => ∃ xs v, Sq K H p xs ∧ atI xs i = some v ∧ Q v H
  | .str z, .int i => z.length ≤ sizeLine ∧ ∃ c, atI z.cps.toList i = some c ∧ Q (.str ⟨#[c]⟩) H
  | _, _ => False
theorem ix_X : IxR X (rIxX X.K) := by
  intro value slice pins s σ H x y v u Q I rx ry h hs
  cases x with
  | ref p => cases y with
    | int i =>
      obtain ⟨xs, w', h1 | h1, h2, h3⟩ := h
      · exact ix_list value slice pins s σ H _ _ v u Q I rx ry ⟨_, xs, _, w', rfl, rfl, h1, h2, h3⟩ hs
      · exact ix_tup value slice pins s σ H _ _ v u Q I rx ry ⟨_, xs, _, w', rfl, rfl, h1, h2, h3⟩ hs
    | _ => exact False.elim h
  | str z => cases y with
    | int i =>
      obtain ⟨h1, c, h2, h3⟩ := h
      exact ix_str value slice pins s σ H _ _ v u Q I rx ry ⟨z, i, c, rfl, rfl, h1, h2, h3⟩ hs
    | _ => exact False.elim h
  | _ => exact False.elim h
def rLenX (K : PySem.W.Frag) : List V → Hp → VK → Prop := fun vs H Q => match vs with
  | [.str z] => z.length ≤ sizeLine ∧ Q (.int z.length) H
  | [.ref p] => ∃ xs, Sq K H p xs ∧ Q (.int xs.length) H
  | _ => False
theorem call_lenX : CallR X (.builtin "len") (rLenX X.K) := by
  intro pins s σ H xs us Q I r h
  match xs, h with
  | [.str z], h => exact call_len_str pins s σ H _ us Q I r ⟨z, rfl, h.1, h.2⟩
  | [.ref p], h =>
    obtain ⟨ys, h1, h2⟩ := h
    exact call_len_seq pins s σ H _ us Q I r ⟨p, ys, rfl, h1, h2⟩
def rAbsX : List V → Hp → VK → Prop := fun vs H Q => match vs with
  | [.int i] => Q (.int (i.natAbs : Int)) H
  | _ => False
theorem call_absX : CallR X (.builtin "abs") rAbsX := by
  intro pins s σ H xs us Q I r h
  match xs, h with
  | [.int i], h =>
    refine call_abs pins s σ H _ us Q I r ⟨i, rfl, ?_⟩
    have e : (if i < 0 then -i else i) = ((i.natAbs : Nat) : Int) := by split <;> omega
    rw [e]; exact h
def rMinX : List V → Hp → VK → Prop := fun vs H Q => match vs with
  | [.int i, .int j] => Q (.int (min i j)) H
  | _ => False
def rMaxX : List V → Hp → VK → Prop := fun vs H Q => match vs with
  | [.int i, .int j] => Q (.int (max i j)) H
  | _ => False
theorem call_minX (hc : X.calm = true) : CallR X (.builtin "min") rMinX := by
  intro pins s σ H xs us Q I r h
  match xs, h with
  | [.int i, .int j], h =>
    refine call_min2 hc pins s σ H _ us Q I r ⟨i, j, rfl, ?_⟩
    have e : (if j < i then j else i) = min i j := by
      rw [Int.min_def]; split <;> split <;> omega
    rw [e]; exact h
theorem call_maxX (hc : X.calm = true) : CallR X (.builtin "max") rMaxX := by
  intro pins s σ H xs us Q I r h
  match xs, h with
  | [.int i, .int j], h =>
    refine call_max2 hc pins s σ H _ us Q I r ⟨i, j, rfl, ?_⟩
    have e : (if j > i then j else i) = max i j := by
      rw [Int.max_def]; split <;> split <;> omega
    rw [e]; exact h
def rListX (K : PySem.W.Frag) : List V → Hp → VK → Prop := fun vs H Q => match vs with
  | [.ref a] => ∃ ys, (Sq K H a ys ∨ ∃ lo hi, H a = some (.rng lo hi) ∧ (-(2 ^ 62) ≤ lo ∧ lo < 2 ^ 62 ∧ -(2 ^ 62) ≤ hi ∧ hi < 2 ^ 62) ∧ (hi - lo).toNat ≤ 2 ^ 20 ∧ ys = rngV lo (hi - lo).toNat) ∧ nw H (.lst ys) Q
  | _ => False
theorem call_listX (hc : X.calm = true) : CallR X (.type "list") (rListX X.K) := by
  intro pins s σ H xs us Q I r h
  match xs, h with
  | [.ref a], h =>
    obtain ⟨ys, h1 | ⟨lo, hi, h1, h2, h3, rfl⟩, h4⟩ := h
    · exact call_list_of pins s σ H _ us Q I r ⟨a, ys, rfl, h1, h4.go⟩
    · exact call_listRng hc pins s σ H _ us Q I r ⟨a, lo, hi, rfl, h1, h2, h3, h4.go⟩
def rRngX : List V → Hp → VK → Prop := fun vs H Q => match vs with
  | [.int j] => nw H (.rng 0 j) Q
  | _ => False
theorem call_rngX : CallR X (.type "range") rRngX := by
  intro pins s σ H xs us Q I r h
  match xs, h with
  | [.int j], h => exact call_rng1 pins s σ H _ us Q I r ⟨j, rfl, nw.go h⟩
theorem bt_isinstance : bootBuiltins "isinstance" = some (.builtin "isinstance") := by kernel_rfl
theorem bt_abs : bootBuiltins "abs" = some (.builtin "abs") := by kernel_rfl
theorem bt_len : bootBuiltins "len" = some (.builtin "len") := by kernel_rfl
theorem bt_min : bootBuiltins "min" = some (.builtin "min") := by kernel_rfl
theorem bt_max : bootBuiltins "max" = some (.builtin "max") := by kernel_rfl
theorem bt_range : bootBuiltins "range" = some (.type "range") := by kernel_rfl
theorem bt_list : bootBuiltins "list" = some (.type "list") := by kernel_rfl
theorem bt_tuple : bootBuiltins "tuple" = some (.type "tuple") := by kernel_rfl
theorem bt_str : bootBuiltins "str" = some (.type "str") := by kernel_rfl
theorem bt_enumerate : bootBuiltins "enumerate" = some (.type "enumerate") := by kernel_rfl
theorem pe_ty {x : Str} {T : String} {pos : Pos} (hg : Gl X x) (hm : X.mg x = none) (hv : bootBuiltins x = some (.type T)) (hn : x ≠ "__name__" := by decide) (hd : (x == ("__debug__" : Str)) = false := by decide) : PE X (.Name x pos) (tC (.ty T)) :=
  pe_bltn hg hm hv rfl hn hd
structure Fnc (P : Program) (w : World) (K : PySem.W.Frag) (mg : Str → Option Value) (base : Heap) (CX : CXT) (k : Nat) (x : Str) (ps : List Str) (sp : Sp) : Prop where
  ex : ∃ (f : Addr) (fd : FuncData), FnOk P w K mg base CX k f fd ps sp ∧ mg x = some (.ref f) ∧ PySem.W.keepIn K (.ref f) = true ∧ Binds K fd ps []
theorem pe_callF {CX : CXT} {E : St → XK} {k : Nat} {x : Str} {ps : List Str} {sp : Sp} {e : Expr} {es : List Expr} {t : TA} {p pos : Pos} (C : Fnc X.prog X.w X.K X.mg X.base CX k x ps sp) (hx : Passes CX X E) (hr : Room k X.A) (hg : Gl X x) (ha : PA X (e :: es) t)
    (hd : (x == ("__debug__" : Str)) = false := by decide)
    (he : starEach (e :: es) X.env = (false, eval e X.env) :: starEach es X.env := by rfl) (hpl : (backTo pos (starEach es X.env)).any (·.1) = false := by rfl) : PE X (.Call (.Name x p) (e :: es) [] pos) (tCall sp [] E t) := by
  obtain ⟨f, fd, F, hm, hk, hb⟩ := C.ex
  exact pe_call F hr hg hm hk hb .nil hx ha hd he hpl
end
def ForTurns (g : TG) (tb : TS) (D : Ends) (J : It) (σ : St) (H : Hp) : Prop := ∃ W : Nat → Nat → St → Hp → Prop, (∃ m, W 0 m σ H) ∧ ∀ i m σ H, W i m σ H →
  (J.stop i H ∧ D.nx σ H) ∨ (J.go i H ∧ ∃ N : St → Hp → Prop, (∀ σ' H', N σ' H' → ∃ m', m' < m ∧ W (i + 1) m' σ' H') ∧ ∀ x H', J.yld i H x H' → g x σ H' fun σ2 H2 => tb { D with nx := N, ct := N, bk := D.nx } σ2 H2)
theorem for_rng {lo : Int} {n : Nat} {g : TG} {tb : TS} {D : Ends} {σ : St} {H : Hp} (Pv : Nat → St → Hp → Prop) (h0 : Pv 0 σ H)
    (hs : ∀ i σ H, i < n → Pv i σ H → g (.int (lo + i)) σ H fun σ2 H2 => tb { D with nx := Pv (i + 1), ct := Pv (i + 1), bk := D.nx } σ2 H2) (hd : ∀ σ H, Pv n σ H → D.nx σ H) : ForTurns g tb D (Itr lo n) σ H := for_range Pv h0 hs hd
theorem for_lst {K : PySem.W.Frag} {a : Addr} {xs : List V} {g : TG} {tb : TS} {D : Ends} {σ : St} {H : Hp} (Pv : Nat → St → Hp → Prop) (h0 : Pv 0 σ H) (hl : ∀ i σ H, i ≤ xs.length → Pv i σ H → SqL K H a xs)
    (hs : ∀ i x σ H, xs[i]? = some x → Pv i σ H → g x σ H fun σ2 H2 => tb { D with nx := Pv (i + 1), ct := Pv (i + 1), bk := D.nx } σ2 H2) (hd : ∀ σ H, Pv xs.length σ H → D.nx σ H) : ForTurns g tb D (Itl K a) σ H := for_list Pv h0 hl hs hd
def tLstX (t : TA) : TE := fun σ H Q => t σ H fun xs H1 => xs.length ≤ sizeLine ∧ nw H1 (.lst xs) Q
def tTupX (t : TA) : TE := fun σ H Q => t σ H fun xs H1 => xs.length ≤ sizeLine ∧ nw H1 (.tup xs) Q
def tDNewX : TE := fun _ H Q => nw H (.dK []) Q
theorem pe_lstX {X : Cx} {es : List Expr} {t : TA} {pos : Pos} (h : PA X es t) : PE X (.List es pos) (tLstX t) := by
  intro pins s σ H Q I hq
  refine wpAny_List_spliced (thn (h pos pins s σ H _ I hq) fun us s1 ⟨xs, H1, I1, r, z, q⟩ => ⟨by rw [← r.length]; exact z, ?_⟩)
  have hf : H1 s1.heap.objs.size = none := I1.hok.fresh (Nat.le_refl _)
  refine ⟨.ref s1.heap.objs.size, upd H1 s1.heap.objs.size (.lst xs), I1.laid (t' := s1.toks) (fun b u e => Heap.get?_push_of_some _ e) (Nat.le_refl _) ?_, rfl, nw.go q _ hf⟩
  exact ⟨z, us, 0, r, Heap.get?_push_size _ rfl⟩
theorem pe_tupX {X : Cx} {es : List Expr} {t : TA} {pos : Pos} {x1} (h : PA X es t) : PE X (.Tuple es x1 pos) (tTupX t) := by
  intro pins s σ H Q I hq
  refine wpAny_Tuple_spliced (thn (h pos pins s σ H _ I hq) fun us s1 ⟨xs, H1, I1, r, z, q⟩ => ⟨by rw [← r.length]; exact z, ?_⟩)
  have hf : H1 s1.heap.objs.size = none := I1.hok.fresh (Nat.le_refl _)
  refine ⟨.ref s1.heap.objs.size, upd H1 s1.heap.objs.size (.tup xs), I1.laid (t' := s1.toks) (fun b u e => Heap.get?_push_of_some _ e) (Nat.le_refl _) ?_, rfl, nw.go q _ hf⟩
  exact ⟨z, us, r, ⟨_, Heap.get?_push_size _ rfl, rfl, _, rfl⟩⟩
theorem pe_dnewX {X : Cx} {pos : Pos} : PE X (.Dict [] [] pos) tDNewX := fun pins s σ H Q I h => pe_dnewK pins s σ H Q I (nw.go h)
section
variable {σ : St} {H : Hp} {Q : VK} {D : Ends}
theorem ap_seq {t u : TS} : tSeq t u D σ H = t { D with nx := u D } σ H := propext Iff.rfl
theorem ap_asg {te : TE} {g : TG} : tAsg te g D σ H = te σ H fun x H1 => g x σ H1 D.nx := propext Iff.rfl
theorem ap_gname {i : Nat} {v : V} {R : St → Hp → Prop} : gName i v σ H R = R (σ.set i (some v)) H := propext Iff.rfl
theorem ap_var {i : Nat} : tVar i σ H Q = ∃ v, σ[i]? = some (some v) ∧ Q v H := propext Iff.rfl
theorem ap_c {v : V} : tC v σ H Q = Q v H := propext Iff.rfl
theorem ap_op {r : R2} {ta tb : TE} : tOp r ta tb σ H Q = ta σ H fun x H1 => tb σ H1 fun y H2 => r x y H2 Q := propext Iff.rfl
theorem ap_un {r : V → Hp → VK → Prop} {ta : TE} : tUn r ta σ H Q = ta σ H fun x H1 => r x H1 Q := propext Iff.rfl
theorem ap_cb {r : List V → Hp → VK → Prop} {t : TA} : tCB r t σ H Q = t σ H fun vs H1 => r vs H1 Q := propext Iff.rfl
theorem ap_cons {ta : TE} {tr : TA} {R : List V → Hp → Prop} : tCons ta tr σ H R = ta σ H fun x H1 => tr σ H1 fun xs H2 => R (x :: xs) H2 := propext Iff.rfl
theorem ap_nil {R : List V → Hp → Prop} : tNil σ H R = R [] H := propext Iff.rfl
theorem ap_call {sp : Sp} {E : St → XK} {t : TA} : tCall sp [] E t σ H Q = t σ H fun vs H1 => sp vs H1 Q (E σ) := by
  show (t σ H fun vs H1 => sp (vs ++ []) H1 Q (E σ)) = _
  simp only [List.append_nil]
theorem ap_ret {te : TE} : tRet te D σ H = te σ H D.rt := propext Iff.rfl
theorem ap_retN : tRetN D σ H = D.rt .non H := propext Iff.rfl
theorem ap_if {c : TT} {t u : TS} : tIfS c t u D σ H = c σ H fun b H1 => if b = true then t D σ H1 else u D σ H1 := propext Iff.rfl
theorem ap_next : tNext D σ H = D.nx σ H := propext Iff.rfl
theorem ap_drop {te : TE} : tDrop te D σ H = te σ H fun _ H1 => D.nx σ H1 := propext Iff.rfl
theorem ap_test {t : TE} {R : Bool → Hp → Prop} : tTest t σ H R = t σ H fun x H' => ∃ k, x = .bl k ∧ R k H' := propext Iff.rfl
theorem ap_b {t : TE} {R : Bool → Hp → Prop} : tB t σ H R = t σ H fun x H' => ∃ k, x = .bl k ∧ R k H' := propext Iff.rfl
theorem ap_not {t : TT} {R : Bool → Hp → Prop} : tNot t σ H R = t σ H fun c H1 => R (!c) H1 := propext Iff.rfl
theorem ap_and {t u : TT} {R : Bool → Hp → Prop} : tAnd t u σ H R = t σ H fun c H1 => if c = true then u σ H1 R else R false H1 := propext Iff.rfl
theorem ap_or {t u : TT} {R : Bool → Hp → Prop} : tOr t u σ H R = t σ H fun c H1 => if c = true then R true H1 else u σ H1 R := propext Iff.rfl
theorem ap_andV {ta tb : TE} : tAndV ta tb σ H Q = ta σ H fun x H1 => ∃ c, x = .bl c ∧ if c = true then tb σ H1 Q else Q (.bl false) H1 := propext Iff.rfl
theorem ap_orV {ta tb : TE} : tOrV ta tb σ H Q = ta σ H fun x H1 => ∃ c, x = .bl c ∧ if c = true then Q (.bl true) H1 else tb σ H1 Q := propext Iff.rfl
theorem ap_notV {ta : TE} : tNotV ta σ H Q = ta σ H fun x H1 => ∃ c, x = .bl c ∧ Q (.bl (!c)) H1 := propext Iff.rfl
theorem ap_ifE {t : TT} {ta tb : TE} : tIf t ta tb σ H Q = t σ H fun c H1 => if c = true then ta σ H1 Q else tb σ H1 Q := propext Iff.rfl
theorem ap_lst {t : TA} : tLstX t σ H Q = t σ H fun xs H1 => xs.length ≤ sizeLine ∧ nw H1 (.lst xs) Q := propext Iff.rfl
theorem ap_tup {t : TA} : tTupX t σ H Q = t σ H fun xs H1 => xs.length ≤ sizeLine ∧ nw H1 (.tup xs) Q := propext Iff.rfl
theorem ap_dnew : tDNewX σ H Q = nw H (.dK []) Q := propext Iff.rfl
theorem ap_lc {k : Nat} {js : List Nat} {wi : TI} {g : TG} {tc : TT} {te : TE} : tLC k js wi g tc te σ H Q = wi σ H fun J H1 => LcTurns g tc te (blkSt k js σ) J H1 Q := propext Iff.rfl
theorem ap_sl {r : V → Option Int → Option Int → Hp → VK → Prop} {te : TE} {tl th : TO} : tSl r te tl th σ H Q = te σ H fun x H1 => tl σ H1 fun l H2 => th σ H2 fun u H3 => r x l u H3 Q := propext Iff.rfl
theorem ap_noPart {R : Option Int → Hp → Prop} : tNoPart σ H R = R none H := propext Iff.rfl
theorem ap_part {t : TE} {R : Option Int → Hp → Prop} : tPart t σ H R = t σ H fun x H1 => ∃ i, x = .int i ∧ R (some i) H1 := propext Iff.rfl
theorem ap_iList {K : PySem.W.Frag} {tl : TE} {R : It → Hp → Prop} : iList K tl σ H R = tl σ H fun x H1 => ∃ a, x = .ref a ∧ (∃ xs, SqL K H1 a xs) ∧ R (Itl K a) H1 := propext Iff.rfl
theorem ap_iRng1 {ta : TA} {R : It → Hp → Prop} : iRng1 ta σ H R = ta σ H fun vs H1 => ∃ j : Int, vs = [.int j] ∧ -(2 ^ 62) ≤ j ∧ j < 2 ^ 62 ∧ R (Itr 0 j.toNat) H1 := propext Iff.rfl
theorem ap_iRng2 {ta : TA} {R : It → Hp → Prop} : iRng2 ta σ H R = ta σ H fun vs H1 => ∃ i j : Int, vs = [.int i, .int j] ∧ (-(2 ^ 62) ≤ i ∧ i < 2 ^ 62 ∧ -(2 ^ 62) ≤ j ∧ j < 2 ^ 62) ∧ R (Itr i (j - i).toNat) H1 := propext Iff.rfl
theorem ap_iZip {K : PySem.W.Frag} {ta : TA} {R : It → Hp → Prop} : iZip K ta σ H R = ta σ H fun vs H1 => ∃ a b, vs = [.ref a, .ref b] ∧ (∃ xs, SqL K H1 a xs) ∧ (∃ ys, SqL K H1 b ys) ∧ R (Itz K a b) H1 := propext Iff.rfl
theorem ap_for {wi : TI} {g : TG} {tb : TS} : tFor wi g tb D σ H = wi σ H fun J H1 => ForTurns g tb D J σ H1 := propext Iff.rfl
theorem ap_par {i j : Nat} {ta : TA} : tPar i j ta D σ H = ta σ H fun vs H1 => ∃ v w, vs = [v, w] ∧ D.nx ((σ.set i (some v)).set j (some w)) H1 := propext Iff.rfl
theorem ap_gsub {to ti : TE} {t : TSet} {v : V} {R : St → Hp → Prop} : gSub to ti t v σ H R = to σ H fun o H1 => ti σ H1 fun i H2 => t o i v H2 fun H3 => R σ H3 := propext Iff.rfl
theorem ap_bm {K : PySem.W.Frag} {T : String} {r : V → List V → Hp → VK → Prop} {to : TE} {t : TA} : tBM K T r to t σ H Q = to σ H fun x H1 => tyV K T x H1 ∧ t σ H1 fun xs H2 => r x xs H2 Q := propext Iff.rfl
theorem ap_bm0 {K : PySem.W.Frag} {T : String} {r : V → List V → Hp → VK → Prop} {to : TE} : tBM0 K T r to σ H Q = to σ H fun x H1 => tyV K T x H1 ∧ r x [] H1 Q := propext Iff.rfl
theorem ap_chain {r r' : R2} {ta tb tc : TE} : tChain r r' ta tb tc σ H Q = ta σ H fun x H1 => tb σ H1 fun y H2 => r x y H2 fun z H3 => ∃ k, z = .bl k ∧ if k = true then tc σ H3 fun v H4 => r' y v H4 Q else Q (.bl false) H3 := propext Iff.rfl
theorem ex_bl {b : Bool} {P : Bool → Prop} : (∃ k, V.bl b = V.bl k ∧ P k) = P b := propext ⟨fun ⟨k, e, h⟩ => by cases e; exact h, fun h => ⟨b, rfl, h⟩⟩
theorem ex_int {b : Int} {P : Int → Prop} : (∃ k, V.int b = V.int k ∧ P k) = P b := propext ⟨fun ⟨k, e, h⟩ => by cases e; exact h, fun h => ⟨b, rfl, h⟩⟩
theorem ex_ref {b : Addr} {P : Addr → Prop} : (∃ k, V.ref b = V.ref k ∧ P k) = P b := propext ⟨fun ⟨k, e, h⟩ => by cases e; exact h, fun h => ⟨b, rfl, h⟩⟩
theorem ex_int1 {b : Int} {P : Int → Prop} : (∃ k, [V.int b] = [V.int k] ∧ P k) = P b := propext ⟨fun ⟨k, e, h⟩ => by cases e; exact h, fun h => ⟨b, rfl, h⟩⟩
theorem ex_int2 {b c : Int} {P : Int → Int → Prop} : (∃ k l, [V.int b, V.int c] = [V.int k, V.int l] ∧ P k l) = P b c := propext ⟨fun ⟨k, l, e, h⟩ => by cases e; exact h, fun h => ⟨b, c, rfl, h⟩⟩
theorem ex_ref2 {b c : Addr} {P : Addr → Addr → Prop} : (∃ k l, [V.ref b, V.ref c] = [V.ref k, V.ref l] ∧ P k l) = P b c := propext ⟨fun ⟨k, l, e, h⟩ => by cases e; exact h, fun h => ⟨b, c, rfl, h⟩⟩
theorem ex_two {b c : V} {P : V → V → Prop} : (∃ k l, [b, c] = [k, l] ∧ P k l) = P b c := propext ⟨fun ⟨k, l, e, h⟩ => by cases e; exact h, fun h => ⟨b, c, rfl, h⟩⟩
theorem ex_some {v : V} {P : V → Prop} : (∃ k, some (some v) = some (some k) ∧ P k) = P v := propext ⟨fun ⟨k, e, h⟩ => by cases e; exact h, fun h => ⟨v, rfl, h⟩⟩
theorem start_eq {N : List Str} {vs : List V} : start N vs = vs.map some ++ List.replicate (N.length - vs.length) none := rfl
end
inductive Tg where
  | non | bl | int | str | lst | tup | dct
  deriving DecidableEq
def Tg.name : Tg → String
  | .non => "NoneType" | .bl => "bool" | .int => "int" | .str => "str" | .lst => "list" | .tup => "tuple" | .dct => "dict"
def Tg.sub : Tg → Tg → Bool
  | .non, .non => true | .bl, .bl => true | .int, .int => true | .str, .str => true | .lst, .lst => true | .tup, .tup => true | .dct, .dct => true
  | .bl, .int => true
  | _, _ => false
def tagO : Option HO → Option Tg
  | some (.lst _) => some .lst | some (.frz _ (.lst _)) => some .lst | some (.tup _) => some .tup | some (.dK _) => some .dct | some (.dT _) => some .dct
  | _ => none
def tagV (H : Hp) : V → Option Tg
  | .non => some .non | .bl _ => some .bl | .int _ => some .int | .str _ => some .str | .ref a => tagO (H a)
  | _ => none
theorem kit_tags (K : PySem.W.Frag) : ∀ t c : Tg, c ≠ .non → PySem.W.kitOne K (.type t.name) (.type c.name) = some (t.sub c) := by
  intro t c h
  cases t <;> cases c <;> first
    | exact absurd rfl h
    | rfl
    | kernel_rfl
    | decide +kernel
theorem tag_ty {K : PySem.W.Frag} {H : Hp} {x : V} {t : Tg} (h : tagV H x = some t) : TyOf K H x (.type t.name) := by
  cases x with
  | non => cases h; exact .non
  | bl b => cases h; exact .bl b
  | int i => cases h; exact .int i
  | str z => cases h; exact .str z
  | ref a =>
    have h' : tagO (H a) = some t := h
    cases e : H a with
    | none => rw [e] at h'; cases h'
    | some o =>
      rw [e] at h'
      cases o with
      | lst xs => cases h'; exact .lst e
      | tup xs => cases h'; exact .tup e
      | dK kvs => cases h'; exact .dK e
      | dT kvs => cases h'; exact .dT e
      | frz ob u => cases u with
        | lst xs => cases h'; exact .frz e
        | _ => cases h'
      | _ => cases h'
  | _ => cases h
def rIsiC (c : Tg) : List V → Hp → VK → Prop := fun vs H Q => match vs with
  | [x, .ty n] => n = c.name ∧ ∃ t, tagV H x = some t ∧ Q (.bl (t.sub c)) H
  | _ => False
theorem call_isiC {X : Cx} (c : Tg) (hc : c ≠ .non := by decide) : CallR X (.builtin "isinstance") (rIsiC c) := by
  intro pins s σ H xs us Q I r h
  match xs, h with
  | [x, .ty n], h =>
    obtain ⟨rfl, t, ht, q⟩ := h
    exact call_isi pins s σ H _ us Q I r ⟨x, _, _, _, rfl, tag_ty ht, kit_tags X.K t c hc, q⟩
def rSlX (K : PySem.W.Frag) : V → Option Int → Option Int → Hp → VK → Prop := fun x lo hi H Q => match x with
  | .ref a => ∃ xs, SqL K H a xs ∧ nw H (.lst (cutV xs lo hi)) Q
  | _ => False
theorem while_x {c : TT} {tb : TS} {D : Ends} {σ : St} {H : Hp} (Pv : St → Hp → Prop) (μ : St → Hp → Nat) (h0 : Pv σ H)
    (hs : ∀ σ H, Pv σ H → c σ H fun b H1 => if b = true then ∃ N : St → Hp → Prop, (∀ σ' H', N σ' H' → Pv σ' H' ∧ μ σ' H' < μ σ H) ∧ tb { D with nx := N, ct := N, bk := D.nx } σ H1 else D.nx σ H1) : tWhile c tb D σ H :=
  ⟨fun m σ H => m = μ σ H ∧ Pv σ H, ⟨_, rfl, h0⟩, fun m σ H ⟨e, p⟩ => by
    subst e
    have q := hs σ H p
    have e : (fun (b : Bool) (H1 : Hp) => if b = true then ∃ N : St → Hp → Prop, (∀ σ' H', N σ' H' → Pv σ' H' ∧ μ σ' H' < μ σ H) ∧ tb { D with nx := N, ct := N, bk := D.nx } σ H1 else D.nx σ H1) =
        fun (b : Bool) (H1 : Hp) => if b = true then ∃ N : St → Hp → Prop, (∀ σ' H', N σ' H' → ∃ m', m' < μ σ H ∧ m' = μ σ' H' ∧ Pv σ' H') ∧ tb { D with nx := N, ct := N, bk := D.nx } σ H1 else D.nx σ H1 := by
      funext b H1
      cases b with
      | false => rfl
      | true =>
        simp only [if_true]
        refine propext ⟨fun ⟨N, h1, h2⟩ => ⟨N, fun σ' H' n => ⟨_, (h1 σ' H' n).2, rfl, (h1 σ' H' n).1⟩, h2⟩, fun ⟨N, h1, h2⟩ => ⟨N, fun σ' H' n => ?_, h2⟩⟩
        obtain ⟨m', h3, h4, h5⟩ := h1 σ' H' n
        exact ⟨h5, by rw [← h4]; exact h3⟩
    rw [e] at q
    exact q⟩
theorem cutV_drop (xs : List V) (k : Nat) : cutV xs (some (k : Int)) none = xs.drop k := by
  unfold cutV
  rw [HT.sIx_nat, HT.sIx_none]
  rw [List.take_of_length_le (by rw [List.length_drop]; omega)]
  by_cases h : k ≤ xs.length
  · rw [Nat.min_eq_left h]
  · rw [Nat.min_eq_right (by omega), List.drop_of_length_le (Nat.le_refl _), List.drop_of_length_le (by omega)]
theorem cutV_take (xs : List V) (k : Nat) : cutV xs none (some (k : Int)) = xs.take k := by
  unfold cutV
  rw [HT.sIx_nat, HT.sIx_none, Nat.sub_zero, List.drop_zero]
  by_cases h : k ≤ xs.length
  · rw [Nat.min_eq_left h]
  · rw [Nat.min_eq_right (by omega), List.take_of_length_le (Nat.le_refl _), List.take_of_length_le (by omega)]
theorem rngV_ints (n : Nat) : rngV 0 n = (Mk.ofN n).map V.int := by
  unfold rngV Mk.ofN
  rw [List.map_map]
  refine List.map_congr_left fun k _ => ?_
  show V.int (0 + (k : Int)) = V.int (k : Int)
  rw [Int.zero_add]
theorem seq_ofN {H1 : Hp} (n : Nat) : (Itr 0 n).Seq H1 ((Mk.ofN n).map V.int) := by
  rw [← rngV_ints]; exact seq_range
def pI (f : Int → Bool) : V → Bool
  | .int i => f i
  | _ => false
theorem filter_pI (f : Int → Bool) (xs : List Int) : (xs.map V.int).filter (pI f) = (xs.filter f).map V.int := by
  rw [List.filter_map]; rfl
theorem mem_ints {x : V} {xs : List Int} (h : x ∈ xs.map V.int) : ∃ i, x = .int i ∧ i ∈ xs := by
  obtain ⟨i, hi, rfl⟩ := List.mem_map.mp h
  exact ⟨i, rfl, hi⟩
theorem small_line {n : Nat} (h : n ≤ 100000) : n < sizeLine := Nat.lt_of_le_of_lt h (by decide)
section
variable {X : Cx} {K : PySem.W.Frag}
theorem op_eqK (hK : X.K = K) (hu : X.A.units < cLine) : OpR X (compareOp .Eq) (rEqX K) := hK ▸ op_eqX hu
theorem op_neK (hK : X.K = K) (hu : X.A.units < cLine) : OpR X (compareOp .NotEq) (rNeX K) := hK ▸ op_neX hu
theorem ix_K (hK : X.K = K) : IxR X (rIxX K) := hK ▸ ix_X
theorem call_lenK (hK : X.K = K) : CallR X (.builtin "len") (rLenX K) := hK ▸ call_lenX
theorem call_listK (hK : X.K = K) (hc : X.calm = true) : CallR X (.type "list") (rListX K) := hK ▸ call_listX hc
theorem pg_tupK {es : List Expr} {k : Nat} {t : TGs} {n : Nat} {pos : Pos} (hK : X.K = K) (hc : X.calm = true) (h : PGs X es t)
    (hn : (assignEach es X.env).length = n := by rfl) (hst : (assignEach es X.env).findIdx? (·.1) = none := by rfl) : PG X (.Tuple es k pos) (gTup K n t) := hK ▸ pg_tup hc h hn hst
theorem pe_bmK {o e : Expr} {es : List Expr} {to : TE} {t : TA} {name : Str} {apos cpos : Pos} {T id : String} {r : V → List V → Hp → VK → Prop} (hK : X.K = K) (pa : PlainAttrs T) (slot : Slot T name id) (hty : typeOf (.builtin id) = pure (.type "method_descriptor"))
    (hm : MtR X id r) (ho : PE X o to) (ha : PA X (e :: es) t)
    (hbase : attributeBase o name X.env (eval o X.env) = eval o X.env := by rfl)
    (hfew : ((backTo cpos (starEach (e :: es) X.env)).all (fun x => !x.1) && (backToKw cpos (keywordEach [] X.env)).all (fun x => x.1.isSome)
      && decide ((e :: es).length + ([] : List Keyword).length + (if ([] : List Keyword).isEmpty then 0 else 1) < 30)) = true := by rfl)
    (hline : (apos.endLine == cpos.line) = true := by rfl) (hs : starEach (e :: es) X.env = (false, eval e X.env) :: starEach es X.env := by rfl) (hplain : (backTo cpos (starEach es X.env)).any (·.1) = false := by rfl) :
    PE X (.Call (.Attribute o name apos) (e :: es) [] cpos) (tBM K T r to t) := hK ▸ pe_bm pa slot hty hm ho ha hbase hfew hline hs hplain
end
end L2

namespace L2
open PySem PySem.Spec PyProof.Rows
def noStar : Expr → Bool
  | .Starred _ _ => false
  | _ => true
def noStars (es : List Expr) : Bool := es.all noStar
theorem starEach_cons {e : Expr} {es : List Expr} {env : Env} (h : noStar e = true) : starEach (e :: es) env = (false, eval e env) :: starEach es env := by
  cases e <;> first
    | rfl
    | cases h
theorem noStars_tail {e : Expr} {es : List Expr} (h : noStars (e :: es) = true) : noStar e = true ∧ noStars es = true := by
  unfold noStars at h ⊢
  rw [List.all_cons, Bool.and_eq_true] at h
  exact h
theorem backTo_any {pos : Pos} {env : Env} : ∀ {es : List Expr}, noStars es = true → (backTo pos (starEach es env)).any (·.1) = false
  | [], _ => rfl
  | e :: es, h => by
    obtain ⟨h1, h2⟩ := noStars_tail h
    rw [starEach_cons h1]
    show (false || (backTo pos (starEach es env)).any (·.1)) = false
    rw [backTo_any h2]; rfl
theorem backTo_all {pos : Pos} {env : Env} : ∀ {es : List Expr}, noStars es = true → (backTo pos (starEach es env)).all (fun x => !x.1) = true
  | [], _ => rfl
  | e :: es, h => by
    obtain ⟨h1, h2⟩ := noStars_tail h
    rw [starEach_cons h1]
    show (true && (backTo pos (starEach es env)).all (fun x => !x.1)) = true
    rw [backTo_all h2]; rfl
section
variable {X : Cx} {K : PySem.W.Frag}
theorem pvL (i : Nat) {x : Str} {pos : Pos} (hN : X.N[i]? = some x := by kernel_rfl) (hv : X.env.scope.names.lookup x = some .local := by kernel_rfl) (hd : (x == ("__debug__" : Str)) = false := by kernel_rfl)
    (hcd : (x == ("__classdict__" : Str)) = false := by kernel_rfl) : PE X (.Name x pos) (tVar i) := pe_var hN (.inl hv) hd hcd
theorem pvC (i : Nat) {x : Str} {pos : Pos} (hN : X.N[i]? = some x := by kernel_rfl) (hv : X.env.scope.names.lookup x = some .cell := by kernel_rfl) (hd : (x == ("__debug__" : Str)) = false := by kernel_rfl)
    (hcd : (x == ("__classdict__" : Str)) = false := by kernel_rfl) : PE X (.Name x pos) (tVar i) := pe_var hN (.inr (.inl hv)) hd hcd
theorem pa_c {e : Expr} {es : List Expr} {te : TE} {t : TA} (ha : PE X e te) (hr : PA X es t) (hs : noStar e = true := by kernel_rfl) : PA X (e :: es) (tCons te t) := pa_cons ha hr (starEach_cons hs)
theorem pe_callG {CX : CXT} {E : St → XK} {k : Nat} {x : Str} {ps : List Str} {sp : Sp} {e : Expr} {es : List Expr} {t : TA} {p pos : Pos} (C : Fnc X.prog X.w X.K X.mg X.base CX k x ps sp) (hx : Passes CX X E) (hr : Room k X.A) (ha : PA X (e :: es) t)
    (hg : X.env.kindOf x = some .globalImplicit := by kernel_rfl) (hd : (x == ("__debug__" : Str)) = false := by kernel_rfl) (hs : noStars (e :: es) = true := by kernel_rfl) : PE X (.Call (.Name x p) (e :: es) [] pos) (tCall sp [] E t) :=
  pe_callF C hx hr hg ha hd (starEach_cons (noStars_tail hs).1) (backTo_any (noStars_tail hs).2)
theorem pe_callBG {x : Str} {p pos : Pos} {e : Expr} {es : List Expr} {t : TA} {id : String} {r : List V → Hp → VK → Prop} (hc : CallR X (.builtin id) r) (hm : X.mg x = none) (hv : bootBuiltins x = some (.builtin id)) (ha : PA X (e :: es) t)
    (hg : X.env.kindOf x = some .globalImplicit := by kernel_rfl) (hn : x ≠ "__name__" := by decide +kernel) (hd : (x == ("__debug__" : Str)) = false := by kernel_rfl) (hs : noStars (e :: es) = true := by kernel_rfl) : PE X (.Call (.Name x p) (e :: es) [] pos) (tCB r t) :=
  pe_callB hc hg hm hv ha hn hd (starEach_cons (noStars_tail hs).1) (backTo_any (noStars_tail hs).2)
theorem pe_callTyG {x : Str} {p pos : Pos} {e : Expr} {es : List Expr} {t : TA} {T : String} {r : List V → Hp → VK → Prop} (hc : CallR X (.type T) r) (hm : X.mg x = none) (hv : bootBuiltins x = some (.type T)) (ha : PA X (e :: es) t)
    (hg : X.env.kindOf x = some .globalImplicit := by kernel_rfl) (hn : x ≠ "__name__" := by decide +kernel) (hd : (x == ("__debug__" : Str)) = false := by kernel_rfl) (hs : noStars (e :: es) = true := by kernel_rfl) : PE X (.Call (.Name x p) (e :: es) [] pos) (tCB r t) :=
  pe_callTy hc hg hm hv ha hn hd (starEach_cons (noStars_tail hs).1) (backTo_any (noStars_tail hs).2)
theorem pe_tyG {x : Str} {T : String} {pos : Pos} (hm : X.mg x = none) (hv : bootBuiltins x = some (.type T)) (hg : X.env.kindOf x = some .globalImplicit := by kernel_rfl) (hn : x ≠ "__name__" := by decide +kernel) (hd : (x == ("__debug__" : Str)) = false := by kernel_rfl) :
    PE X (.Name x pos) (tC (.ty T)) := pe_ty hg hm hv hn hd
theorem ps_setL {i : Nat} {x : Str} {e : Expr} {te : TE} {pos pos' : Pos} (hN : X.N.Nodup) (he : PE X e te) (hi : X.N[i]? = some x := by kernel_rfl) (hx : X.env.scope.names.lookup x = some .local := by kernel_rfl)
    (hs : swapsWith e (some (.Name x pos')) pos.line X.env = pure false := by kernel_rfl) : PS X (.Assign [.Name x pos'] e pos) (tAsg te (gName i)) := ps_set hN hi (.inl hx) he hs (.inr hx)
theorem ps_setC {i : Nat} {x : Str} {e : Expr} {te : TE} {pos pos' : Pos} (hN : X.N.Nodup) (he : PE X e te) (hi : X.N[i]? = some x := by kernel_rfl) (hx : X.env.scope.names.lookup x = some .cell := by kernel_rfl) (hf : X.fn x = true := by kernel_rfl)
    (hs : swapsWith e (some (.Name x pos')) pos.line X.env = pure false := by kernel_rfl) : PS X (.Assign [.Name x pos'] e pos) (tAsg te (gName i)) := ps_set hN hi (.inr hx) he hs (.inl hf)
theorem pg_nameL {i : Nat} {x : Str} {pos : Pos} (hN : X.N.Nodup) (hi : X.N[i]? = some x := by kernel_rfl) (hx : X.env.scope.names.lookup x = some .local := by kernel_rfl) : PG X (.Name x pos) (gName i) := pg_name hN hi (.inl hx) (.inr hx)
theorem pg_nameC {i : Nat} {x : Str} {pos : Pos} (hN : X.N.Nodup) (hi : X.N[i]? = some x := by kernel_rfl) (hx : X.env.scope.names.lookup x = some .cell := by kernel_rfl) (hf : X.fn x = true := by kernel_rfl) : PG X (.Name x pos) (gName i) := pg_name hN hi (.inr hx) (.inl hf)
theorem pi_range1G {tg a : Expr} {ta : TA} {p pos : Pos} (hm : X.mg "range" = none) (ha : PA X [a] ta) (hg : X.env.kindOf "range" = some .globalImplicit := by kernel_rfl) (hs : noStar a = true := by kernel_rfl) : PI X tg (.Call (.Name "range" p) [a] [] pos) (iRng1 ta) :=
  pi_range1 hg hm ha (starEach_cons hs)
theorem pe_bmG {o e : Expr} {es : List Expr} {to : TE} {t : TA} {name : Str} {apos cpos : Pos} {T id : String} {r : V → List V → Hp → VK → Prop} (hK : X.K = K) (pa : PlainAttrs T) (slot : Slot T name id) (hty : typeOf (.builtin id) = pure (.type "method_descriptor"))
    (hm : MtR X id r) (ho : PE X o to) (ha : PA X (e :: es) t)
    (hbase : attributeBase o name X.env (eval o X.env) = eval o X.env := by kernel_rfl) (hs : noStars (e :: es) = true := by kernel_rfl) (hlen : decide ((e :: es).length < 30) = true := by kernel_rfl)
    (hline : (apos.endLine == cpos.line) = true := by kernel_rfl) : PE X (.Call (.Attribute o name apos) (e :: es) [] cpos) (tBM K T r to t) := by
  refine pe_bmK hK pa slot hty hm ho ha hbase ?_ hline (starEach_cons (noStars_tail hs).1) (backTo_any (noStars_tail hs).2)
  rw [backTo_all hs]
  show (true && true && decide ((e :: es).length + 0 + 0 < 30)) = true
  rw [Bool.true_and, Bool.true_and]; exact hlen
end
end L2

namespace L2
open PySem PySem.Spec PyProof.Rows
def tx (l : List Nat) : Str := ⟨l.toArray⟩
theorem tx_cps (l : List Nat) : (tx l).cps.toList = l := by unfold tx; simp
theorem tx_len (l : List Nat) : (tx l).length = l.length := by show l.toArray.size = _; simp
theorem tx_of (x : Str) : tx x.cps.toList = x := by unfold tx; simp
theorem tx_inj {a b : List Nat} (h : tx a = tx b) : a = b := by have := congrArg (fun x : Str => x.cps.toList) h; simpa [tx] using this
theorem tx_dec (a b : List Nat) : decide (tx a = tx b) = decide (a = b) := by
  by_cases e : a = b
  · subst e; simp
  · rw [decide_eq_false e, decide_eq_false (fun z => e (tx_inj z))]
theorem len_cps (x : Str) : x.length = x.cps.toList.length := by show x.cps.size = _; simp
def Itx (z : Str) : It := ⟨fun i _ => i < z.cps.size, fun i H v H' => H' = H ∧ ∃ c, z.cps[i]? = some c ∧ v = .str ⟨#[c]⟩, fun i _ => z.cps.size ≤ i⟩
theorem turn_str {P : Program} {w : World} {K : PySem.W.Frag} {tg : Expr} (n : String) (hn : n = "str_ascii_iterator" ∨ n = "str_iterator") (z : Str) (t : Tok) (it : Addr) : Turn P w K tg (Itx z) [it] it (fun i h => h.IsStrIter it n z t i) where
  mem := by simp
  obj := fun i h st b hb => by
    have e : b = it := by simpa using hb
    subst e
    obtain ⟨o, e, c, d⟩ := st
    exact ⟨o, e, fun v z => by rw [d] at z; cases z⟩
  keep := fun i h h' st k => by
    obtain ⟨o, e, c, d⟩ := st
    exact ⟨o, k it (by simp) o e, c, d⟩
  item := by
    intro X hP hw hK hc i pins s σ H E I hf st hg
    subst hP hw hK
    have hg' : i < z.cps.size := hg
    have hx : z.cps[i]? = some z.cps[i] := Array.getElem?_eq_getElem hg'
    obtain ⟨f0, f1, f2, f3, f4, f5⟩ := hf it (by simp)
    have go : ∀ h', h'.IsStrIter it n z t (i + 1) → Heap.SameBut it s.heap h' → ∃ u, some (Value.str ⟨#[z.cps[i]]⟩ s.toks) = some u ∧
        wpAny (model X.prog X.w) X.A (letOwnedTupleGo tg (.ref it) u) (fun _ s2 => ∃ x H', Inv X pins σ H' s2 ∧ RelV x u ∧ (Itx z).yld i H x H' ∧ s2.heap.IsStrIter it n z t (i + 1) ∧ ∀ b ∈ [it], H' b = none) E { s with heap := h', toks := s.toks + 1 } := fun h' st' sb => by
      have I1 : Inv X pins σ H { s with heap := h', toks := s.toks + 1 } := I.turned (t' := s.toks + 1) (fun b o hb e => (sb.2 b hb).trans e) f0 f1 f3 f4 f5
      obtain ⟨o, e, c, d⟩ := id st'
      exact ⟨_, rfl, go_of (s := { s with heap := h', toks := s.toks + 1 }) e c d (by rcases hn with rfl | rfl <;> decide) ⟨.str ⟨#[z.cps[i]]⟩, H, I1, ⟨_, rfl⟩, ⟨rfl, _, hx, rfl⟩, st', fun b hb => (hf b hb).1⟩⟩
    rcases hn with rfl | rfl
    · exact wpAny_pyNext_ascii_item st hx go
    · exact wpAny_pyNext_wide_item st hx go
  done := by
    intro X hP hw hK hc i pins s σ H E I hf st hg
    subst hP hw hK
    have hx : z.cps[i]? = none := Array.getElem?_eq_none hg
    obtain ⟨f0, f1, f2, f3, f4, f5⟩ := hf it (by simp)
    have go : ∀ h', Heap.ExtBut it s.heap h' → (none : Option Value) = none ∧ Inv X pins σ H { s with heap := h' } := fun h' eb =>
      ⟨rfl, I.turned (t' := s.toks) (fun b o hb e => eb b o hb e) f0 f1 f3 f4 f5⟩
    rcases hn with rfl | rfl
    · exact wpAny_pyNext_ascii_end (I.ok.hd hc) st hx go
    · exact wpAny_pyNext_wide_end (I.ok.hd hc) st hx go
  self := fun _ _ _ _ _ st h => by
    rcases hn with rfl | rfl
    · exact wpAny_pyIter_striter_ascii st h
    · exact wpAny_pyIter_striter_wide st h
def iSeqV (K : PySem.W.Frag) (x : V) (H : Hp) (R : It → Hp → Prop) : Prop := match x with
  | .ref a => ((∃ xs, SqL K H a xs) ∧ R (Itl K a) H) ∨ ((∃ xs, SqT K H a xs) ∧ R (Itt K a) H)
  | .str z => R (Itx z) H
  | _ => False
def iSeqX (K : PySem.W.Frag) (te : TE) : TI := fun σ H R => te σ H fun x H1 => iSeqV K x H1 R
theorem pi_seq {X : Cx} {tg l : Expr} {tl : TE} (hl : PE X l tl) : PI X tg l (iSeqX X.K tl) := by
  intro pins s σ H R I h
  refine thn (hl pins s σ H _ I h) fun v s1 ⟨x, H1, I1, r1, q1⟩ => ?_
  cases x with
  | ref a =>
    cases r1
    rcases q1 with ⟨⟨xs, hq⟩, q⟩ | ⟨⟨xs, hq⟩, q⟩
    · obtain ⟨its, rv, p, hz⟩ := I1.list hq
      refine wpAny_pyIter_list p.isList ?_
      refine ⟨s1.heap.objs.size, [s1.heap.objs.size], _, _, H1, rfl, I1.kept (t' := s1.toks) fun b o e => Heap.get?_push_of_some _ e, turn_list a _, ⟨_, Heap.get?_push_size _ rfl, rfl, rfl⟩, fun b hb => ?_, q⟩
      have e : b = s1.heap.objs.size := by simpa using hb
      subst e
      exact I1.fpOk (Nat.le_refl _) (I1.hok.fresh (Nat.le_refl _))
    · obtain ⟨its, rv, p, hz⟩ := I1.tuple hq
      refine wpAny_pyIter_tuple (show s1.heap.IsTuple a its.toArray from p) ?_
      refine ⟨s1.heap.objs.size, [s1.heap.objs.size], _, _, H1, rfl, I1.kept (t' := s1.toks) fun b o e => Heap.get?_push_of_some _ e, turn_tuple a _, ⟨_, Heap.get?_push_size _ rfl, rfl, rfl⟩, fun b hb => ?_, q⟩
      have e : b = s1.heap.objs.size := by simpa using hb
      subst e
      exact I1.fpOk (Nat.le_refl _) (I1.hok.fresh (Nat.le_refl _))
  | str z =>
    obtain ⟨t, rfl⟩ := r1
    cases ha : z.cps.all (· < 128) with
    | true =>
      refine wpAny_pyIter_ascii ha ?_
      refine ⟨s1.heap.objs.size, [s1.heap.objs.size], _, _, H1, rfl, I1.kept (t' := s1.toks) fun b o e => Heap.get?_push_of_some _ e, turn_str "str_ascii_iterator" (.inl rfl) z t _, ⟨_, Heap.get?_push_size _ rfl, rfl, rfl⟩, fun b hb => ?_, q1⟩
      have e : b = s1.heap.objs.size := by simpa using hb
      subst e
      exact I1.fpOk (Nat.le_refl _) (I1.hok.fresh (Nat.le_refl _))
    | false =>
      refine wpAny_pyIter_wide ha ?_
      refine ⟨s1.heap.objs.size, [s1.heap.objs.size], _, _, H1, rfl, I1.kept (t' := s1.toks) fun b o e => Heap.get?_push_of_some _ e, turn_str "str_iterator" (.inr rfl) z t _, ⟨_, Heap.get?_push_size _ rfl, rfl, rfl⟩, fun b hb => ?_, q1⟩
      have e : b = s1.heap.objs.size := by simpa using hb
      subst e
      exact I1.fpOk (Nat.le_refl _) (I1.hok.fresh (Nat.le_refl _))
  | _ => exact False.elim q1
theorem pi_seqK {X : Cx} {K : PySem.W.Frag} {tg l : Expr} {tl : TE} (hK : X.K = K) (hl : PE X l tl) : PI X tg l (iSeqX K tl) := hK ▸ pi_seq hl
theorem ap_iSeq {σ : St} {H : Hp} {K : PySem.W.Frag} {tl : TE} {R : It → Hp → Prop} : iSeqX K tl σ H R = tl σ H fun x H1 => iSeqV K x H1 R := propext Iff.rfl
def sgs (z : Str) : List V := z.cps.toList.map fun c => V.str ⟨#[c]⟩
theorem seq_str {H1 : Hp} (z : Str) : (Itx z).Seq H1 (sgs z) := fun H s => by
  refine ⟨fun i x e => ?_, fun i hi => ?_⟩
  · unfold sgs at e
    rw [List.getElem?_map, Array.getElem?_toList] at e
    cases hc : z.cps[i]? with
    | none => rw [hc] at e; cases e
    | some c =>
      rw [hc] at e
      have e' : V.str ⟨#[c]⟩ = x := Option.some.inj e
      have hi : i < z.cps.size := by
        rcases Nat.lt_or_ge i z.cps.size with h | h
        · exact h
        · rw [Array.getElem?_eq_none h] at hc; cases hc
      exact ⟨hi, fun y H' ⟨e1, d, e2, e3⟩ => ⟨e1, by rw [hc] at e2; cases e2; rw [e3, e']⟩⟩
  · show z.cps.size ≤ i
    unfold sgs at hi
    simpa using hi
def rInX (K : PySem.W.Frag) (neg : Bool) : R2 := fun x y H Q => match y with
  | .str j => match x with
    | .str i => Q (.bl (neg != !(Builtin.Str.occurrences j i 0 j.length 1).isEmpty)) H
    | _ => False
  | .ref p => (∃ xs, Sq K H p xs ∧ flatV x = true ∧ xs.all flatV = true ∧ Q (.bl (neg != inV x xs)) H) ∨ ∃ o : Option V, DGet H p x o ∧ Q (.bl (neg != o.isSome)) H
  | _ => False
theorem op_inX {X : Cx} (hu : X.A.units + 1 < cLine) : OpR X (compareOp .In) (rInX X.K false) := by
  intro pins s σ H x y v u Q I rx ry h
  cases y with
  | str j => cases x with
    | str i =>
      refine op_in_str pins s σ H _ _ v u Q I rx ry ⟨i, j, rfl, rfl, ?_⟩
      have h' : Q (.bl (false != !(Builtin.Str.occurrences j i 0 j.length 1).isEmpty)) H := h
      rwa [Bool.false_bne] at h'
    | _ => exact False.elim h
  | ref p =>
    rcases h with ⟨xs, hs, fx, fxs, q⟩ | ⟨o, hg, q⟩
    · rw [Bool.false_bne] at q
      exact op_in_seq pins s σ H _ _ v u Q I rx ry ⟨p, xs, rfl, hs, fx, fxs, q⟩
    · rw [Bool.false_bne] at q
      cases ry
      exact d_in hu I hg rx fun s' I' => ⟨.bl _, H, I', rfl, q⟩
  | _ => exact False.elim h
theorem op_notInX {X : Cx} (hu : X.A.units + 1 < cLine) : OpR X (compareOp .NotIn) (rInX X.K true) := by
  intro pins s σ H x y v u Q I rx ry h
  cases y with
  | str j => cases x with
    | str i =>
      refine op_notin_str pins s σ H _ _ v u Q I rx ry ⟨i, j, rfl, rfl, ?_⟩
      have h' : Q (.bl (true != !(Builtin.Str.occurrences j i 0 j.length 1).isEmpty)) H := h
      rwa [Bool.true_bne] at h'
    | _ => exact False.elim h
  | ref p =>
    rcases h with ⟨xs, hs, fx, fxs, q⟩ | ⟨o, hg, q⟩
    · rw [Bool.true_bne] at q
      exact op_notIn_seq pins s σ H _ _ v u Q I rx ry ⟨p, xs, rfl, hs, fx, fxs, q⟩
    · rw [Bool.true_bne] at q
      cases ry
      exact d_notIn hu I hg rx fun s' I' => ⟨.bl _, H, I', rfl, q⟩
  | _ => exact False.elim h
theorem op_inK {X : Cx} {K : PySem.W.Frag} (hK : X.K = K) (hu : X.A.units + 1 < cLine) : OpR X (compareOp .In) (rInX K false) := hK ▸ op_inX hu
theorem op_notInK {X : Cx} {K : PySem.W.Frag} (hK : X.K = K) (hu : X.A.units + 1 < cLine) : OpR X (compareOp .NotIn) (rInX K true) := hK ▸ op_notInX hu
theorem At_one {x : Str} {c i : Nat} : StrLaws.At x ⟨#[c]⟩ x.length i ↔ x.cps.toList[i]? = some c := by
  unfold StrLaws.At Builtin.Str.subAt
  show i + 1 ≤ x.cps.size ∧ (x.cps.extract i (i + 1) == #[c]) = true ↔ _
  rw [Array.getElem?_toList]
  constructor
  · rintro ⟨h1, h2⟩
    have e := eq_of_beq h2
    have : x.cps[i]? = (x.cps.extract i (i + 1))[0]? := by
      rw [Array.getElem?_extract]; simp; omega
    rw [this, e]; rfl
  · intro h
    have hi : i < x.cps.size := by
      rcases Nat.lt_or_ge i x.cps.size with h' | h'
      · exact h'
      · rw [Array.getElem?_eq_none h'] at h; cases h
    refine ⟨hi, ?_⟩
    have : x.cps.extract i (i + 1) = #[c] := by
      apply Array.ext
      · simp; omega
      · intro j h1 h2
        have hj : j = 0 := by simp at h2; omega
        subst hj
        have e := Array.getElem?_eq_getElem hi
        rw [h] at e
        simp [Option.some.inj e]
    rw [this]; exact beq_self_eq_true _
theorem find_one {x : Str} {c : Nat} (h : c ∈ x.cps.toList) : Txt.find x ⟨#[c]⟩ = ((x.cps.toList.idxOf c : Nat) : Int) := by
  have hi : x.cps.toList.idxOf c < x.cps.toList.length := List.idxOf_lt_length_of_mem h
  have hg : x.cps.toList[x.cps.toList.idxOf c]? = some c := by
    rw [List.getElem?_eq_getElem hi, List.getElem_idxOf]
  rcases find_whole x ⟨#[c]⟩ with ⟨_, hn⟩ | ⟨i, e, hi2, hn⟩
  · exact absurd (At_one.mpr hg) (hn _)
  · rw [e]
    have h1 : ¬ x.cps.toList.idxOf c < i := fun z => hn _ z (At_one.mpr hg)
    have h2 := At_one.mp hi2
    have h3 : x.cps.toList.idxOf c ≤ i := by
      rcases Nat.lt_or_ge i (x.cps.toList.idxOf c) with z | z
      · obtain ⟨hl, e2⟩ := List.getElem?_eq_some_iff.mp h2
        have h5 := List.not_of_lt_findIdx (p := (· == c)) (xs := x.cps.toList) (i := i) z
        rw [e2] at h5
        simp at h5
      · exact z
    congr 1
    omega
def rIndexS : V → List V → Hp → VK → Prop := fun x vs H Q => match x, vs with
  | .str z, [.str y] => 0 ≤ Txt.find z y ∧ Q (.int (Txt.find z y)) H
  | _, _ => False
theorem strs_of {ys : List Str} : ∀ {us : List Value}, Vals (ys.map V.str) us → StrsAre us ys := by
  induction ys with
  | nil => intro us r; cases r; exact .nil
  | cons y r ih =>
    intro us h
    cases h with
    | cons h1 h2 =>
      obtain ⟨t, rfl⟩ := h1
      exact .cons _ _ (ih h2)
def rJoinS (K : PySem.W.Frag) : V → List V → Hp → VK → Prop := fun x vs H Q => match x, vs with
  | .str z, [.ref p] => ∃ ys : List Str, SqL K H p (ys.map V.str) ∧ (ys.map (·.length)).sum + ys.length * z.length ≤ 16777216 ∧ Q (.str (Txt.join z ys)) H
  | _, _ => False
theorem mt_joinS {X : Cx} : MtM X "str.join" (rJoinS X.K) := by
  intro pins s σ H x vs v us Q I rx rv h
  match x, vs, h with
  | .str z, [.ref p], h =>
    obtain ⟨ys, hs, hl, q⟩ := h
    obtain ⟨t, rfl⟩ := rx
    obtain ⟨u, rfl, ru⟩ := rv.one
    cases ru
    obtain ⟨its, rv2, pl, hz⟩ := I.list hs
    exact join_list pl.isList (by simpa using strs_of rv2) hl fun t' k => ⟨.str _, H, I.tok _, ⟨_, rfl⟩, q⟩
theorem mt_joinK {X : Cx} {K : PySem.W.Frag} (hK : X.K = K) : MtM X "str.join" (rJoinS K) := hK ▸ mt_joinS
theorem join_empty (ls : List (List Nat)) : Txt.join (tx []) (ls.map tx) = tx ls.flatten := by
  have go : ∀ (r : List (List Nat)) (acc : List Nat), (r.map tx).foldl (fun acc p => acc ++ (tx []).cps ++ p.cps) acc.toArray = (acc ++ r.flatten).toArray := by
    intro r
    induction r with
    | nil => intro acc; simp
    | cons a r ih =>
      intro acc
      rw [List.map_cons, List.foldl_cons]
      have e : acc.toArray ++ (tx []).cps ++ (tx a).cps = (acc ++ a).toArray := by simp [tx]
      rw [e, ih]
      simp
  unfold Txt.join Builtin.Str.glued
  cases ls with
  | nil => rfl
  | cons a r =>
    have := go r a
    show Str.mk ((r.map tx).foldl (fun acc p => acc ++ (tx []).cps ++ p.cps) a.toArray) = tx (a :: r).flatten
    rw [this]
    rfl
theorem join_signs (l : List Nat) : Txt.join (tx []) (l.map fun c => tx [c]) = tx l := by
  have := join_empty (l.map fun c => [c])
  rw [List.map_map] at this
  rw [show (l.map fun c => tx [c]) = l.map (tx ∘ fun c => [c]) from rfl, this]
  congr 1
  induction l with
  | nil => rfl
  | cons a r ih => rw [List.map_cons, List.flatten_cons, ih (by
      have := join_empty (r.map fun c => [c])
      rw [List.map_map] at this; exact this)]; rfl
section
variable {α β : Type}
noncomputable def pull {γ : Type} (e : α → V) (f : α → γ) (d : γ) (v : V) : γ := open Classical in if h : ∃ a, e a = v then f (Classical.choose h) else d
theorem pull_at {γ : Type} {e : α → V} (inj : ∀ a b, e a = e b → a = b) (f : α → γ) (d : γ) (a : α) : pull e f d (e a) = f a := by
  unfold pull
  have h : ∃ b, e b = e a := ⟨a, rfl⟩
  rw [dif_pos h, inj _ _ (Classical.choose_spec h)]
theorem inj_int : ∀ a b : Int, V.int a = V.int b → a = b := fun _ _ h => by cases h; rfl
theorem inj_sg : ∀ a b : Nat, V.str ⟨#[a]⟩ = V.str ⟨#[b]⟩ → a = b := fun _ _ h => by cases h; rfl
theorem lc_A {J : It} {H1 : Hp} {xs : List α} {js : List Nat} {σ : St} {tc : TT} {te : TE} {Q : VK} (e : α → V) (inj : ∀ a b, e a = e b → a = b) (hJ : J.Seq H1 (xs.map e)) (hl : xs.length < sizeLine) (p : α → Bool) (f : α → V)
    (hc : ∀ x ∈ xs, ∀ H, Same H1 H → ∀ R : Bool → Hp → Prop, (∀ H', Same H H' → R (p x) H') → tc (some (e x) :: js.map fun j => (σ[j]?).join) H R)
    (he : ∀ x ∈ xs, p x = true → ∀ H, Same H1 H → ∀ R : VK, (∀ H', Same H H' → R (f x) H') → te (some (e x) :: js.map fun j => (σ[j]?).join) H R)
    (q : ∀ D H, H1 D = none → Same H1 H → H D = some (.lst ((xs.filter p).map f)) → Q (.ref D) H) : LcTurns (gName 0) tc te (blkSt 1 js σ) J H1 Q := by
  refine lc_one hJ (by rw [List.length_map]; exact hl) (pull e p false) (pull e f .non) ?_ ?_ ?_
  · intro v hv H s R hR
    obtain ⟨x, hx, rfl⟩ := List.mem_map.mp hv
    rw [pull_at inj] at hR
    exact hc x hx H s R hR
  · intro v hv hp H s R hR
    obtain ⟨x, hx, rfl⟩ := List.mem_map.mp hv
    rw [pull_at inj] at hR hp
    exact he x hx hp H s R hR
  · intro D H h1 h2 h3
    refine q D H h1 h2 ?_
    rw [h3, List.filter_map, List.map_map]
    congr 2
    have e1 : pull e f .non ∘ e = f := funext fun a => pull_at inj f .non a
    have e2 : pull e p false ∘ e = p := funext fun a => pull_at inj p false a
    rw [e1, e2]
theorem lc_M {J : It} {H1 : Hp} {xs : List α} {js : List Nat} {σ : St} {te : TE} {Q : VK} (e : α → V) (inj : ∀ a b, e a = e b → a = b) (hJ : J.Seq H1 (xs.map e)) (hl : xs.length < sizeLine) (f : α → V)
    (he : ∀ x ∈ xs, ∀ H, Same H1 H → ∀ R : VK, (∀ H', Same H H' → R (f x) H') → te (some (e x) :: js.map fun j => (σ[j]?).join) H R)
    (q : ∀ D H, H1 D = none → Same H1 H → H D = some (.lst (xs.map f)) → Q (.ref D) H) : LcTurns (gName 0) tYes te (blkSt 1 js σ) J H1 Q :=
  lc_A e inj hJ hl (fun _ => true) f (fun x _ H _ R hR => hR H (Same.refl H)) (fun x hx _ H s R hR => he x hx H s R hR) fun D H h1 h2 h3 => q D H h1 h2 (by rw [List.filter_eq_self.mpr (fun _ _ => rfl)] at h3; exact h3)
end
theorem seq_sg {H1 : Hp} (z : Str) : (Itx z).Seq H1 (z.cps.toList.map fun c => V.str ⟨#[c]⟩) := seq_str z
theorem cbig_small {a b : Int} (ha : 0 ≤ a ∧ a < 1000) (hb : 0 ≤ b ∧ b < 1000) : CBig a b :=
  ⟨Nat.lt_of_lt_of_le (show a.natAbs < 1000 by omega) (by decide), Nat.lt_of_lt_of_le (show b.natAbs < 1000 by omega) (by decide)⟩
theorem cut_seq {t u : TS} {D : Ends} {σ : St} {H : Hp} (R : St → Hp → Prop) (h2 : ∀ σ' H', R σ' H' → u D σ' H') (h1 : ∀ U : St → Hp → Prop, (∀ σ' H', R σ' H' → U σ' H') → t { D with nx := U } σ H) : tSeq t u D σ H := h1 _ h2
theorem atI_ints {l : List Int} {i : Int} (h0 : 0 ≤ i) (h1 : i < l.length) : atI (l.map V.int) i = some (.int (l.getD i.toNat 0)) := by
  have e : (l.map V.int)[i.toNat]? = some (.int (l.getD i.toNat 0)) := by
    rw [List.getElem?_map, List.getD_eq_getElem?_getD, List.getElem?_eq_getElem (by omega)]; rfl
  have := atI_nat e
  rwa [Int.toNat_of_nonneg h0] at this
theorem atI_of {α : Type} {l : List α} {i : Int} {v : α} (h0 : 0 ≤ i) (h1 : l[i.toNat]? = some v) : atI l i = some v := by
  have := atI_nat h1
  rwa [Int.toNat_of_nonneg h0] at this
theorem abc_codes : (Str.ofString "abcdefghijklmnopqrstuvwxyz").cps.toList = List.range' 97 26 := by decide +kernel
theorem empty_tx : Str.ofString "" = tx [] := by decide +kernel
theorem abc_line : (Str.ofString "abcdefghijklmnopqrstuvwxyz").length ≤ sizeLine := by
  rw [len_cps, abc_codes, List.length_range']; decide
theorem js_seq {K : PySem.W.Frag} {H : Hp} {D : Addr} {l : List Nat} (h : H D = some (.lst (l.map fun c => V.str (tx [c])))) : SqL K H D ((l.map fun c => tx [c]).map V.str) := .of (by rw [h, List.map_map]; rfl)
theorem js_len {l : List Nat} (hl : l.length ≤ 100000) : ((l.map fun c => tx [c]).map (·.length)).sum + (l.map fun c => tx [c]).length * (Str.ofString "").length ≤ 16777216 := by
  have e2 : (Str.ofString "").length = 0 := by decide +kernel
  rw [e2, Nat.mul_zero, Nat.add_zero, List.map_map]
  have e : ∀ l : List Nat, (l.map ((fun x : Str => x.length) ∘ fun x => tx [x])).sum = l.length := by
    intro l
    induction l with
    | nil => rfl
    | cons a r ih => rw [List.map_cons, List.sum_cons, ih, List.length_cons]; show (tx [a]).length + _ = _; rw [tx_len]; simp; omega
  rw [e]
  omega
theorem js_join (l : List Nat) : Txt.join (Str.ofString "") (l.map fun c => tx [c]) = tx l := by rw [empty_tx, join_signs]
end L2

namespace L2
open PySem PySem.Spec PyProof.Rows
def DK (h h' : Heap) : Prop := ∀ b o, h.get? b = some o → ∃ o', h'.get? b = some o' ∧ o'.cls = o.cls ∧ o'.dict = o.dict ∧ (∀ vs, o.data = .fields vs → ∃ vs', o'.data = .fields vs')
theorem DK.refl (h : Heap) : DK h h := fun b o e => ⟨o, e, rfl, rfl, fun vs q => ⟨vs, q⟩⟩
theorem DK.trans {h1 h2 h3 : Heap} (x : DK h1 h2) (y : DK h2 h3) : DK h1 h3 := fun b o e => by
  obtain ⟨o1, e1, c1, d1, f1⟩ := x b o e
  obtain ⟨o2, e2, c2, d2, f2⟩ := y b o1 e1
  exact ⟨o2, e2, c2.trans c1, d2.trans d1, fun vs q => by obtain ⟨v1, q1⟩ := f1 vs q; exact f2 v1 q1⟩
theorem DK.push (h : Heap) (o : Obj) : DK h (h.push o) := fun b u e => ⟨u, Heap.get?_push_of_some _ e, rfl, rfl, fun vs q => ⟨vs, q⟩⟩
structure KD {α : Type} (m : Sem α) : Prop where
  out : ∀ (M : Model) (Γ : PySem.Ctx) (P : α → Pos → Shared → Prop) (Ee : Value → Pos → Shared → Prop) (p : Pos) (s : Shared), Sem.wp M Γ m P Ee p s →
    Sem.wp M Γ m (fun a p' s' => P a p' s' ∧ DK s.heap s'.heap) (fun e p' s' => Ee e p' s' ∧ DK s.heap s'.heap) p s
namespace KD
variable {α β : Type}
theorem pure (a : α) : KD (Pure.pure a : Sem α) := ⟨fun _ _ _ _ _ s h => ⟨h, DK.refl _⟩⟩
theorem unsupported (w : String) : KD (PySem.unsupported w : Sem α) := ⟨fun _ _ _ _ _ _ h => h⟩
theorem bind {m : Sem α} {f : α → Sem β} (hm : KD m) (hf : ∀ a, KD (f a)) : KD (m >>= f) := ⟨fun M Γ P Ee p s h => by
  rw [Sem.wp_bind'] at h ⊢
  refine Sem.wp_mono M Γ m (fun a p' s' h' => ?_) (fun _ _ _ x => x) p s (hm.out M Γ _ _ p s h)
  refine Sem.wp_mono M Γ (f a) (fun b p2 s2 h2 => ⟨h2.1, h'.2.trans h2.2⟩) (fun e p2 s2 h2 => ⟨h2.1, h'.2.trans h2.2⟩) p' s' ((hf a).out M Γ P Ee p' s' h'.1)⟩
theorem ite {c : Prop} [Decidable c] {t u : Sem α} (ht : KD t) (hu : KD u) : KD (if c then t else u) := by split <;> assumption
theorem load (a : Addr) : KD (PySem.load a) := ⟨fun _ _ _ _ _ s h => by obtain ⟨o, e, q⟩ := h; exact ⟨o, e, q, DK.refl _⟩⟩
theorem stack : KD PySem.stack := ⟨fun M Γ P Ee p s h => by
  unfold PySem.stack at h ⊢
  rw [Sem.wp_stack] at h ⊢
  exact ⟨h, DK.refl _⟩⟩
theorem alloc (o : Obj) : KD (PySem.alloc o) := ⟨fun _ _ _ _ _ s h => ⟨h, DK.push _ _⟩⟩
theorem field (v : Value) (i : Nat) : KD (PySem.field v i) := ⟨fun _ Γ P Ee p s h => by
  rw [wp_field_iff] at h ⊢
  obtain ⟨a, o, vs, x, e1, e2, e3, e4, q⟩ := h
  exact ⟨a, o, vs, x, e1, e2, e3, e4, q, DK.refl _⟩⟩
theorem update {a : Addr} {f : Obj → Obj} (hf : ∀ o, (f o).cls = o.cls ∧ (f o).dict = o.dict ∧ (f o).isFreed = o.isFreed ∧ ∀ vs, o.data = .fields vs → ∃ vs', (f o).data = .fields vs') : KD (PySem.update a f) := ⟨fun _ _ _ _ _ s h => by
  refine ⟨h.1, h.2, fun b o e => ?_⟩
  by_cases hb : b = a
  · subst hb
    obtain ⟨h1, h2, h3, h4⟩ := hf o
    have hfr : o.isFreed = false := (Heap.get?_some_iff.mp e).2
    exact ⟨f o, Heap.get?_update_self _ e (by rw [h3]; exact hfr), h1, h2, h4⟩
  · exact ⟨o, (Heap.get?_update_other _ _ (Ne.symm hb)).trans e, rfl, rfl, fun vs q => ⟨vs, q⟩⟩⟩
theorem setField (v : Value) (i : Nat) (x : Value) : KD (PySem.setField v i x) := ⟨fun _ Γ P Ee p s h => by
  rw [wp_setField_iff] at h ⊢
  obtain ⟨a, o, vs, e1, e2, e3, e4, q⟩ := h
  refine ⟨a, o, vs, e1, e2, e3, e4, q, fun b u e => ?_⟩
  by_cases hb : b = a
  · subst hb
    rw [e2] at e
    cases e
    have hd := Obj.data_mapFields e3 (·.setIfInBounds i x)
    exact ⟨_, Heap.get?_update_self _ e2 (Obj.isFreed_of_fields hd), Obj.cls_mapFields .., by cases o with | mk c d dt sl => cases dt <;> first | rfl, fun _ _ => ⟨_, hd⟩⟩
  · exact ⟨u, (Heap.get?_update_other _ _ (Ne.symm hb)).trans e, rfl, rfl, fun vs q => ⟨vs, q⟩⟩⟩
theorem slots {a : Addr} {g : Obj → Array (Option Value)} : KD (PySem.update a fun o => { o with slots := g o }) := update fun o => ⟨rfl, rfl, by cases o with | mk c d dt sl => cases dt <;> rfl, fun vs q => ⟨vs, q⟩⟩
end KD
theorem kd_behind (env : Env) (outer : List Env) : KD (behindIsImport env outer) := by
  unfold behindIsImport
  repeat' with_reducible first | exact KD.pure _ | exact KD.field _ _ | apply KD.ite | apply KD.bind | intro _
theorem kd_caller : KD underTheClaimsCaller := by
  unfold underTheClaimsCaller
  repeat' with_reducible first | exact KD.pure _ | exact KD.stack | exact KD.unsupported _ | exact KD.field _ _ | apply KD.ite | apply KD.bind | intro _ | split
theorem kd_kept (env : Env) (i : Bool) (l : List Env) : KD (keptBack env i l) := by
  have := kd_caller
  cases l <;> unfold keptBack <;> repeat' with_reducible first | assumption | exact KD.pure _ | apply KD.ite | apply KD.bind | intro _
theorem kd_ready : ∀ l : List Env, KD (readyFrames l)
  | [] => KD.pure _
  | env :: outer => by
    have ih := kd_ready outer
    have h1 := kd_behind env outer
    have h2 := fun i => kd_kept env i outer
    unfold readyFrames
    split
    · refine KD.bind (KD.load _) fun o => KD.ite (KD.pure _) (KD.bind h1 fun b => KD.bind (h2 b) fun v => KD.bind KD.slots fun _ => ih)
    · exact KD.unsupported _
theorem kd_frameObject (l : List Env) : KD (frameObject l) := by
  cases l with
  | nil => exact KD.pure _
  | cons a r => unfold frameObject; exact KD.bind (kd_ready _) fun _ => KD.pure _
theorem kd_frameOf (env : Env) : KD (PySem.frameOf env) := by
  unfold PySem.frameOf frameEnvs
  refine KD.bind (KD.bind KD.stack fun _ => KD.pure _) fun l => KD.bind (kd_frameObject _) fun o => ?_
  cases o with
  | none => exact KD.unsupported _
  | some v => exact KD.pure _
theorem kd_place (f : Addr) (b : Bool) : KD (entryPlaceOf f b) := by
  unfold entryPlaceOf
  repeat' with_reducible first | exact KD.pure _ | exact KD.stack | exact KD.unsupported _ | apply KD.ite | apply KD.bind | intro _ | split
theorem kd_entry (a b c d e : Value) (l : List Value) : KD (EntryCells.newEntry a b c d e l) := by
  unfold EntryCells.newEntry newFields newObj newObjAsIs
  repeat' first | exact KD.pure _ | exact KD.alloc _ | exact KD.unsupported _ | apply KD.ite | apply KD.bind | intro _ | split
theorem kd_note (e : Value) (env : Env) : KD (noteFrame e env) := by
  unfold noteFrame
  have h1 := kd_frameOf env
  have h2 := kd_place
  have h3 := kd_entry
  split
  · repeat' with_reducible first | exact KD.pure _ | exact KD.field _ _ | exact KD.setField _ _ _ | exact h1 | exact h2 _ _ | exact h3 _ _ _ _ _ _ | apply KD.ite | apply KD.bind | intro _
  · exact KD.unsupported _
theorem kd_flight (e : Value) (o : Option Addr) : KD (setFlight e o) := by
  unfold setFlight
  repeat' with_reducible first | exact KD.pure _ | exact KD.field _ _ | exact KD.setField _ _ _ | apply KD.ite | apply KD.bind | intro _
theorem kd_leaving (env : Env) (e : Value) : KD (leaving env e) := by
  unfold leaving
  exact KD.bind (kd_note _ _) fun _ => kd_flight _ _
theorem KD.any {α : Type} {M : Model} {A : Around} {t : Sem α} {Q : α → Shared → Prop} {E : Value → Shared → Prop} {s : Shared} (k : KD t) (h : wpAny M A t Q E s) :
    wpAny M A t (fun a s' => Q a s' ∧ DK s.heap s'.heap) (fun e s' => E e s' ∧ DK s.heap s'.heap) s := fun Γ p hΓ => k.out M Γ _ _ p s (h Γ p hΓ)
theorem objOk_some {P : Program} {w : World} {H : Hp} {h : Heap} {a : Addr} {o : HO} (x : ObjOk P w H h a o) : ∃ u, h.get? a = some u := by
  cases o with
  | lst xs => obtain ⟨_, _, _, _, e⟩ := x; exact ⟨_, e⟩
  | tup xs => obtain ⟨_, _, _, ob, e, _⟩ := x; exact ⟨_, e⟩
  | dK kvs => obtain ⟨_, _, _, _, ob, _, _, e, _⟩ := x; exact ⟨_, e⟩
  | dT kvs => obtain ⟨_, _, _, _, ob, _, _, e, _⟩ := x; exact ⟨_, e⟩
  | set S n => obtain ⟨ob, _, _, _, e, _⟩ := x; exact ⟨_, e⟩
  | ins C dx fs => obtain ⟨_, _, _, e, _⟩ := x; exact ⟨_, e⟩
  | own y => exact x
  | xd fs => obtain ⟨_, ⟨od, _, _, e, _⟩, _⟩ := x; exact ⟨_, e⟩
  | rng lo hi => obtain ⟨_, _, _, e⟩ := x; exact ⟨_, e⟩
  | frz ob u => exact ⟨_, x.1⟩
  | tbl ps => exact ⟨_, x⟩
  | met f y => exact ⟨_, x⟩
  | ext φ => exact x.2.1
def CX1 (P : Program) (w : World) : CXT := fun outer H s E e s' => ∃ (ea C t : Addr) (B : Heap) (H' : Hp) (d : Option Addr), e = .ref ea ∧ s'.os = s.os ∧ AllBare s'.gens ∧ Un (frs outer) [] H H' s.heap s'.heap ∧ HOk P w H' s'.heap ∧
  Heap.FlyingW B outer ea (.ref C) (.ref t) s'.heap ∧ (∃ oe, s'.heap.get? ea = some oe ∧ oe.dict = d) ∧ (∀ dx, d = some dx → ∃ fs, H' dx = some (.xd fs)) ∧
  (∀ b o, s'.heap.get? b = some o → b ∉ frs outer → (H' b ≠ none ∨ ∃ u, s.heap.get? b = some u) → B.get? b = some o) ∧ E (.ref C) d H'
section
variable {X : Cx} {pins : List (Addr × Obj)} {σ : St} {H : Hp} {s : Shared}
theorem cx_leave {B h' : Heap} (I : Inv X pins σ H s) (hst : X.stack = X.env :: X.outer) (hf : X.env.frame = some X.env.locals) (hex : X.ex = []) (hB : B.StaysIn h') (hsm : s.heap.UpToSlots h')
    (hk : ∀ b o, s.heap.get? b = some o → b ∉ frs X.stack → (H b ≠ none ∨ ∃ u, X.s₀.heap.get? b = some u) → B.get? b = some o) :
    Un (frs X.outer) [] X.H₀ H X.s₀.heap h' ∧ HOk X.prog X.w H h' ∧ ∀ b o, h'.get? b = some o → b ∉ frs X.outer → (H b ≠ none ∨ ∃ u, X.s₀.heap.get? b = some u) → B.get? b = some o := by
  have hfs : frs X.stack = X.env.locals :: frs X.outer := by rw [hst]; unfold frs; rw [List.filterMap_cons, hf]
  have old : ∀ b u, X.s₀.heap.get? b = some u → b ≠ X.env.locals := fun b u e z => absurd (Nat.lt_of_lt_of_le (Heap.lt_size e) (by rw [z]; exact I.ok.above)) (Nat.lt_irrefl _)
  have nstk : ∀ b, b ≠ X.env.locals → b ∉ frs X.outer → b ∉ frs X.stack := fun b h1 h2 z => by rw [hfs] at z; rcases List.mem_cons.mp z with z | z; exact h1 z; exact h2 z
  have trk : ∀ b, H b ≠ none → b ∉ frs X.stack := fun b h1 z => h1 (I.stkFree b z)
  have nx : ∀ b : Addr, b ∉ X.ex := fun b => by rw [hex]; simp
  have fr : ∀ b, b ∈ frs X.outer → ∃ o, s.heap.get? b = some o ∧ ∀ vs, o.data ≠ .fields vs := fun b hb => (I.stack.mem (show b ∈ frs X.stack by rw [hfs]; exact List.mem_cons_of_mem _ hb)).2
  have tkeep : ∀ b o, H b ≠ none → s.heap.get? b = some o → h'.get? b = some o := fun b o h1 e => hB b o (hk b o e (trk b h1) (.inl h1))
  have okeep : ∀ b o u, X.s₀.heap.get? b = some u → b ∉ frs X.outer → s.heap.get? b = some o → h'.get? b = some o := fun b o u e0 h2 e => hB b o (hk b o e (nstk b (old b u e0) h2) (.inr ⟨u, e0⟩))
  refine ⟨⟨fun b o e n hb _ => ?_, fun b o e n hb _ => ?_, fun b o e n _ => I.base.free b o e n (nx b), fun b o e _ => ?_, I.base.tups, I.base.frzs, I.base.tbls⟩, fun a o e => ?_, fun b o e hb hc => ?_⟩
  · exact okeep b o o e hb (I.base.keep b o e n hb (nx b))
  · obtain ⟨sl, e1⟩ := I.base.slot b o e n hb (nx b)
    obtain ⟨o1, e2, hd⟩ := fr b hb
    rw [e1] at e2
    cases e2
    obtain ⟨sl', e3⟩ := hsm b _ e1 hd
    exact ⟨sl', e3⟩
  · obtain ⟨o1, e1⟩ := I.base.there b o e (nx b)
    by_cases hb : b ∈ frs X.outer
    · obtain ⟨o2, e2, hd⟩ := fr b hb
      obtain ⟨sl', e3⟩ := hsm b _ e2 hd
      exact ⟨_, e3⟩
    · exact ⟨o1, okeep b o1 o e hb e1⟩
  · refine (I.hok a o e).stay (fun c v hc q => tkeep c v ?_ q) (fun _ q => q) fun _ _ q => q
    rcases hc with z | z
    · rw [z, e]; simp
    · rw [z]; simp
  · rcases hc with h1 | ⟨u, e0⟩
    · cases q : H b with
      | none => exact absurd q h1
      | some ob =>
        obtain ⟨o1, e1⟩ := objOk_some (I.hok b ob q)
        have := tkeep b o1 h1 e1
        rw [e] at this
        cases this
        exact hk b o e1 (trk b h1) (.inl h1)
    · obtain ⟨o1, e1⟩ := I.base.there b u e0 (nx b)
      have := okeep b o1 u e0 hb e1
      rw [e] at this
      cases this
      exact hk b o e1 (nstk b (old b u e0) hb) (.inr ⟨u, e0⟩)
end
section
variable {P : Program} {w : World} {K : PySem.W.Frag} {mg : Str → Option Value} {base : Heap} {N : List Str} {qual : Str} {scope : Scope} {f : Addr} {cd : Value} {A : Around} {outer : List Env} {s : Shared} {H : Hp} {E : XK}
theorem pass_def : Passes (CX1 P w) (cxOf (CX1 P w) P w K mg base N qual scope f cd A outer s H E) (fun _ => E) := by
  intro pins σ H1 s1 e s' I h
  obtain ⟨ea, C, t, B, H', d, rfl, os, bare, un, hok, fl, ⟨oe, hoe, hdo⟩, hdx, hkb, hE⟩ := h
  have I' := I.call' (ch := []) os un hok bare (fun b z => absurd z (by simp))
  show wpAny _ _ _ _ _ _
  refine wpAny_mono (KD.any (E := fun _ _ => False) (kd_leaving _ _) (wpAny_leaves_onW (Q := fun _ s'' => ∃ h', s'' = { s' with heap := h' } ∧ Heap.FlyingW B outer ea (.ref C) (.ref t) h' ∧ s'.heap.UpToSlots h') I.ok.frames rfl fl fun h' x1 x2 => ⟨h', rfl, x1, x2⟩)) ?_ (fun _ _ z => False.elim z.1)
  rintro _ s'' ⟨⟨h', rfl, x1, x2⟩, dk⟩
  obtain ⟨u1, u2, u3⟩ := cx_leave (B := B) (h' := h') I' rfl rfl rfl x1.1 x2 (fun b o e1 e2 e3 => hkb b o e1 e2 (e3.elim .inl fun ⟨u, e0⟩ => .inr (I.base.there b u e0 (by show b ∉ ([] : List Addr); simp))))
  obtain ⟨oe', hoe', _, hd', _⟩ := dk ea oe hoe
  exact ⟨ea, C, t, B, H', d, rfl, I'.os, I'.bare, u1, u2, x1, ⟨oe', hoe', hd'.trans hdo⟩, hdx, u3, hE⟩
end
theorem passE0 {P : Program} {w : World} {X : Cx} : Passes (CX1 P w) X E0 := fun _ _ _ _ _ _ _ h => by
  obtain ⟨_, _, _, _, _, _, _, _, _, _, _, _, _, _, _, z⟩ := h
  exact z.elim
theorem cx1_false {P : Program} {w : World} {outer : List Env} {H : Hp} {s : Shared} {e : Value} {s' : Shared} (h : CX1 P w outer H s (fun _ _ _ => False) e s') : False := by
  obtain ⟨_, _, _, _, _, _, _, _, _, _, _, _, _, _, _, z⟩ := h
  exact z
section
variable {P : Program} {w : World} {K : PySem.W.Frag} {mg : Str → Option Value} {base : Heap}
theorem Fun.okX {x qual : Str} {st : Stmt} {f : Addr} {fd : FuncData} {N ps : List Str} {k : Nat} {sp : Sp} (F : Fun K x qual st f fd) (S : FnScope N ps (defScope st)) (len : ∀ vs H Q E, sp vs H Q E → vs.length = ps.length)
    (hbody : ∀ (cdv : Value) (A : Around) (outer : List Env) (s : Shared) (H : Hp) (vs : List V) (Q : VK) (E : XK), Room k (A.deeper (envOfC qual (defScope st) s.heap.objs.size f cdv)) → sp vs H Q E →
      ∃ t, PSs (cxOf (CX1 P w) P w K mg base N qual (defScope st) f cdv A outer s H E) (defBody st) t ∧ t { nx := fun _ H' => Q .non H', rt := Q } (start N vs) H) : FnOk P w K mg base (CX1 P w) (k + 1) f fd ps sp := by
  obtain ⟨oc, od, kV, doc, pm, an, cdv, ct, osl, rfl, lk, hcd⟩ := F.ex
  exact fn_of lk hcd S len fun A outer s H vs Q E hr hsp => hbody cdv A outer s H vs Q E hr hsp
theorem FnOkN.ok {CX : CXT} {k : Nat} {f : Addr} {fd : FuncData} {ps : List Str} {sp : Sp} (F : FnOkN P w K mg base CX k f fd ps sp) : FnOk P w K mg base CX k f fd ps sp :=
  ⟨F.len, fun A outer s H args us vs Q E hr => F.run A outer s H args us vs Q E hr.n⟩
end
def sRaise (C : Addr) (E : St → XK) (t : TA) : TS := fun _ σ H => t σ H fun vs H1 => vs.length ≤ sizeLine ∧ E σ (.ref C) none H1
theorem ap_raise {C : Addr} {E : St → XK} {t : TA} {D : Ends} {σ : St} {H : Hp} : sRaise C E t D σ H = t σ H fun vs H1 => vs.length ≤ sizeLine ∧ E σ (.ref C) none H1 := propext Iff.rfl
section
variable {X : Cx}
end
end L2

namespace L2
open PySem PySem.Spec PyProof.Rows
def excO (a : Addr) (c : Value) (d : Option Addr) : HO := .ext fun h => ∃ o, h.get? a = some o ∧ o.cls = c ∧ o.dict = d ∧ ∃ vs, o.data = .fields vs
section
variable {X : Cx} {pins : List (Addr × Obj)} {σ : St} {H : Hp} {s : Shared}
def Ends.un (D : Ends) (i : Nat) : Ends := ⟨fun σ H => D.nx (σ.set i none) H, D.rt, fun σ H => D.bk (σ.set i none) H, fun σ H => D.ct (σ.set i none) H⟩
def sTry (K : PySem.W.Frag) (tb : (St → XK) → TS) (CE : Addr) (i : Nat) (th : TS) : TS := fun D σ H =>
  tb (fun σ' c d H' => PySem.W.exmOne K c (.ref CE) = some true ∧ ∀ ea H2, H' ea = none → Same H' H2 → H2 ea = some (excO ea c d) → th (D.un i) (σ'.set i (some (.ref ea))) H2) D σ H
end
end L2

namespace L2
open PySem PySem.Spec PyProof.Rows
structure ExcC (K : PySem.W.Frag) (C : Addr) : Prop where
  ga : PySem.W.findIn K (.ref C) "__getattribute__" = some (some (.builtin "BaseException.__getattribute__"))
  gn : PySem.W.findIn K (.ref C) "__getattr__" = some none
  sb : PySem.W.subIn K (.ref C) (.type "BaseException") = some true
  cl : (PySem.W.clsIn K C).isSome = true
  ha : PySem.W.findIn K (.ref C) "__class__" = some (some (.builtin "object.__class__"))
  hn : PySem.W.specialIn K (.builtin "object.__class__") "__get__" = some (some (.builtin "getset_descriptor.__get__"))
  htk : PySem.W.takesIn K (.builtin "object.__class__") = some true
  hm : PySem.W.mroIn K C (.type "object") = some true
def TyX (K : PySem.W.Frag) (H : Hp) (x : V) (t : Value) : Prop := TyOf K H x t ∨ ∃ a C, x = .ref a ∧ t = .ref C ∧ H a = some (excO a (.ref C) none) ∧ ExcC K C
def rIsiG (K : PySem.W.Frag) : List V → Hp → VK → Prop := fun vs H Q => match vs with
  | [x, .ty n] => ∃ t b, TyX K H x t ∧ PySem.W.kitOne K t (.type n) = some b ∧ Q (.bl b) H
  | [x, .ref c] => ∃ t b, TyX K H x t ∧ (PySem.W.kitOne K t (.ref c) = some b ∨ ∃ (a C : Addr) (cs : List Addr), x = .ref a ∧ t = .ref C ∧ H a = some (excO a (.ref C) none) ∧ ExcC K C ∧ H c = some (.tup (cs.map V.ref)) ∧ PySem.W.kitAny K t (cs.map Value.ref) = some b) ∧ Q (.bl b) H
  | _ => False
structure Err (K : PySem.W.Frag) (b : Addr) (cs : List Addr) (c : Addr) : Prop where
  ex : ExcC K c
  em : PySem.W.exmOne K (.ref c) (.ref b) = some true
  ve : PySem.W.kitOne K (.ref c) (.type "ValueError") = some true
  ba : PySem.W.kitOne K (.ref c) (.ref b) = some true
  kd : ∀ d ∈ cs, PySem.W.kitOne K (.ref c) (.ref d) = some (c == d)
theorem Err.any {K : PySem.W.Frag} {b : Addr} {cs : List Addr} {c : Addr} (E : Err K b cs c) : ∀ {ds : List Addr}, (∀ d ∈ ds, d ∈ cs) → PySem.W.kitAny K (.ref c) (ds.map Value.ref) = some (ds.contains c)
  | [], _ => rfl
  | d :: r, h => by
    show (match PySem.W.kitOne K (.ref c) (.ref d) with | some true => some true | some false => PySem.W.kitAny K (.ref c) (r.map Value.ref) | none => none) = _
    rw [E.kd d (h d List.mem_cons_self), Err.any E (fun x hx => h x (List.mem_cons_of_mem _ hx)), List.contains_cons]
    cases (c == d) <;> rfl
theorem ap_try {K : PySem.W.Frag} {tb : (St → XK) → TS} {CE : Addr} {i : Nat} {th : TS} {D : Ends} {σ : St} {H : Hp} : sTry K tb CE i th D σ H =
  tb (fun σ' c d H' => PySem.W.exmOne K c (.ref CE) = some true ∧ ∀ ea H2, H' ea = none → Same H' H2 → H2 ea = some (excO ea c d) → th (D.un i) (σ'.set i (some (.ref ea))) H2) D σ H := propext Iff.rfl
end L2

namespace L2
open PySem PySem.Spec PyProof.Rows
def up (t : TE) : TE := fun σ H R => ∃ R', t σ H R' ∧ ∀ x H, R' x H → R x H
def upA (t : TA) : TA := fun σ H R => ∃ R', t σ H R' ∧ ∀ x H, R' x H → R x H
theorem PE.up {X : Cx} {e : Expr} {t : TE} (h : PE X e t) : PE X e (up t) := fun pins s σ H Q I ⟨R', h1, h2⟩ => thn (h pins s σ H R' I h1) fun _ _ ⟨v, H', I', r, q⟩ => ⟨v, H', I', r, h2 v H' q⟩
theorem PA.up {X : Cx} {es : List Expr} {t : TA} (h : PA X es t) : PA X es (upA t) := fun pos pins s σ H Q I ⟨R', h1, h2⟩ => thn (h pos pins s σ H R' I h1) fun _ _ ⟨v, H', I', r, q⟩ => ⟨v, H', I', r, h2 v H' q⟩
def rFldX (K : PySem.W.Frag) (f : Str) (x : V) (H : Hp) (Q : VK) : Prop := match x with
  | .ref a => ∃ C dx fs v, H a = some (.ins C dx fs) ∧ Cls K C ∧ NoAttr K C f ∧ fs.lookup f = some v ∧ Q v H
  | _ => False
def tFldX (K : PySem.W.Frag) (ta : TE) (f : Str) : TE := fun σ H Q => ta σ H fun x H1 => rFldX K f x H1 Q
theorem ap_fld {K : PySem.W.Frag} {ta : TE} {f : Str} {σ : St} {H : Hp} {Q : VK} : tFldX K ta f σ H Q = ta σ H fun x H1 => rFldX K f x H1 Q := propext Iff.rfl
def rSetX (K : PySem.W.Frag) (f : Str) (y x : V) (H : Hp) (Q : Hp → Prop) : Prop := match x with
  | .ref a => ∃ C dx fs, H a = some (.ins C dx fs) ∧ Cls K C ∧ NoAttr K C f ∧ fs.length < 1000 ∧ Q (upd H a (.ins C dx (putF f y fs)))
  | _ => False
def sFldX (K : PySem.W.Frag) (ta tv : TE) (f : Str) : TS := fun D σ H => tv σ H fun y H1 => ta σ H1 fun x H2 => rSetX K f y x H2 fun H3 => D.nx σ H3
theorem ap_sfld {K : PySem.W.Frag} {ta tv : TE} {f : Str} {D : Ends} {σ : St} {H : Hp} : sFldX K ta tv f D σ H = tv σ H fun y H1 => ta σ H1 fun x H2 => rSetX K f y x H2 fun H3 => D.nx σ H3 := propext Iff.rfl
section
variable {X : Cx} {K : PySem.W.Frag}
end
def rMethX (C : Addr) (m : Str) (x : V) (H : Hp) (Q : Hp → Prop) : Prop := match x with
  | .ref a => ∃ dx fs, H a = some (.ins C dx fs) ∧ fs.lookup m = none ∧ Q H
  | _ => False
def tMethX (C : Addr) (m : Str) (sp : Sp) (E : St → XK) (ta : TE) (t : TA) : TE := fun σ H Q => ta σ H fun x H1 => rMethX C m x H1 fun H1 => t σ H1 fun vs H2 => sp (x :: vs) H2 Q (E σ)
theorem ap_meth {C : Addr} {m : Str} {sp : Sp} {E : St → XK} {ta : TE} {t : TA} {σ : St} {H : Hp} {Q : VK} : tMethX C m sp E ta t σ H Q = ta σ H fun x H1 => rMethX C m x H1 fun H1 => t σ H1 fun vs H2 => sp (x :: vs) H2 Q (E σ) := propext Iff.rfl
section
variable {X : Cx} {CX : CXT} {E : St → XK}
end
def tMakeX (C : Addr) (sp : Sp) (E : St → XK) (t : TA) : TE := fun σ H Q => t σ H fun vs H1 => ∀ x dx H2, H1 x = none → H1 dx = none → dx ≠ x → Same H1 H2 → H2 x = some (.ins C dx []) → H2 dx = some (.own x) → sp (.ref x :: vs) H2 (fun v H3 => v = .non ∧ Q (.ref x) H3) (E σ)
theorem ap_make {C : Addr} {sp : Sp} {E : St → XK} {t : TA} {σ : St} {H : Hp} {Q : VK} : tMakeX C sp E t σ H Q = t σ H fun vs H1 => ∀ x dx H2, H1 x = none → H1 dx = none → dx ≠ x → Same H1 H2 → H2 x = some (.ins C dx []) → H2 dx = some (.own x) → sp (.ref x :: vs) H2 (fun v H3 => v = .non ∧ Q (.ref x) H3) (E σ) := propext Iff.rfl
section
variable {X : Cx} {CX : CXT} {E : St → XK}
end
end L2

namespace L2
open PySem PySem.Spec PyProof.Rows
section
variable {prog : Program} {w : World} {A : Around} {E : Value → Shared → Prop}
end
def gUnp (K : PySem.W.Frag) (n : Nat) (t : TGs) : TG := fun v σ H Q => match v with
  | .ref a => ∃ xs, Sq K H a xs ∧ xs.length = n ∧ t xs σ H Q
  | _ => False
theorem ap_unp {K : PySem.W.Frag} {n : Nat} {t : TGs} {a : Addr} {σ : St} {H : Hp} {Q : St → Hp → Prop} : gUnp K n t (.ref a) σ H Q = ∃ xs, Sq K H a xs ∧ xs.length = n ∧ t xs σ H Q := propext Iff.rfl
theorem ap_gcons {t : TG} {u : TGs} {v : V} {r : List V} {σ : St} {H : Hp} {Q : St → Hp → Prop} : gCons t u (v :: r) σ H Q = t v σ H fun σ' H' => u r σ' H' Q := propext ⟨fun ⟨_, _, e, h⟩ => by cases e; exact h, fun h => ⟨v, r, rfl, h⟩⟩
theorem ap_gnil {σ : St} {H : Hp} {Q : St → Hp → Prop} : gNil [] σ H Q = Q σ H := propext ⟨fun h => h.2, fun h => ⟨rfl, h⟩⟩
def cutN (l : List Nat) (lo hi : Option Int) : List Nat := (l.drop (HT.sIx l.length 0 lo)).take (HT.sIx l.length l.length hi - HT.sIx l.length 0 lo)
theorem cutN_length (l : List Nat) (lo hi : Option Int) : (cutN l lo hi).length ≤ l.length := by
  unfold cutN
  rw [List.length_take, List.length_drop]
  omega
theorem pick_range {α : Type} (l : List α) (a k : Nat) : ((List.range k).map fun j => a + j).filterMap (l[·]?) = (l.drop a).take k := by
  induction k with
  | zero => simp
  | succ k ih =>
    rw [List.range_succ, List.map_append, List.filterMap_append, ih, List.take_succ]
    congr 1
    simp only [List.map_cons, List.map_nil, List.filterMap_cons, List.filterMap_nil, List.getElem?_drop]
    cases l[a + k]? <;> rfl
def partOf : Option Int → Tok → Option (Int × Tok)
  | some i, t => some (i, t)
  | none, _ => none
def clipV (n d : Nat) : Option Int → Int
  | none => d
  | some i => max 0 (min (if i < 0 then i + (n : Int) else i) (n : Int))
theorem sIx_clip (n d : Nat) (o : Option Int) : clipV n d o = ((HT.sIx n d o : Nat) : Int) := by
  cases o with
  | none => rfl
  | some v =>
    show max 0 (min (if v < 0 then v + (n : Int) else v) (n : Int)) = ((if v < 0 then (v + (n : Int)).toNat else min v.toNat n : Nat) : Int)
    by_cases h : v < 0
    · rw [if_pos h, if_pos h]; omega
    · rw [if_neg h, if_neg h]; omega
theorem indices_clip (lo hi : Option Int) (n : Nat) : Builtin.Str.strSliceIndices lo hi 1 n = sliceRange (clipV n 0 lo) (clipV n n hi) 1 := by
  unfold Builtin.Str.strSliceIndices clipV
  cases lo <;> cases hi <;> simp
theorem range_one (a b : Nat) : sliceRange (a : Int) (b : Int) 1 = (List.range (b - a)).map fun j => a + j := by
  unfold sliceRange
  have e3 : (if (1 : Int) > 0 then (if (a : Int) < (b : Int) then ((b : Int) - (a : Int) + 1 - 1) / 1 else 0) else (if (a : Int) > (b : Int) then ((a : Int) - (b : Int) - 1 - 1) / (-1) else 0)).toNat = b - a := by
    rw [if_pos (by decide)]
    split <;> omega
  show ((List.range (if (1 : Int) > 0 then (if (a : Int) < (b : Int) then ((b : Int) - (a : Int) + 1 - 1) / 1 else 0) else (if (a : Int) > (b : Int) then ((a : Int) - (b : Int) - 1 - 1) / (-1) else 0)).toNat).map fun (k : Nat) => ((a : Int) + 1 * (k : Int)).toNat) = _
  rw [e3]
  exact List.map_congr_left fun k _ => by omega
theorem picked_range (x : Str) (lo hi : Option Int) (t u : Tok) : slicePicked x (partOf lo t) (partOf hi u) none = (List.range (HT.sIx x.length x.length hi - HT.sIx x.length 0 lo)).map fun j => HT.sIx x.length 0 lo + j := by
  unfold slicePicked
  have e1 : (partOf lo t).map (·.1) = lo := by cases lo <;> rfl
  have e2 : (partOf hi u).map (·.1) = hi := by cases hi <;> rfl
  rw [e1, e2]
  show Builtin.Str.strSliceIndices lo hi 1 x.length = _
  rw [indices_clip, sIx_clip, sIx_clip, range_one]
theorem picked_cut (x : Str) (lo hi : Option Int) (t u : Tok) : (slicePicked x (partOf lo t) (partOf hi u) none).filterMap (x.cps[·]?) = cutN x.cps.toList lo hi := by
  have e5 : (fun i : Nat => x.cps[i]?) = fun i : Nat => x.cps.toList[i]? := by funext i; rw [Array.getElem?_toList]
  rw [picked_range, e5, pick_range]
  unfold cutN
  rw [← len_cps]
theorem sl_strX {X : Cx} : SlR X (fun x lo hi H Q => ∃ z, x = .str z ∧ z.length ≤ sizeLine ∧ Q (.str (tx (cutN z.cps.toList lo hi))) H) := by
  intro pins s σ H x v vl vu lo hi sl Q I rx hs pl pu h
  obtain ⟨z, rfl, hz, q⟩ := h
  obtain ⟨t, rfl⟩ := rx
  refine ⟨"str", _, F.slot_str_getitem.lookup, typeIs_str s z t, ?_⟩
  have h1 : ∃ tl, vl = partValue (partOf lo tl) := by cases pl with | none => exact ⟨0, rfl⟩ | int i t => exact ⟨t, rfl⟩
  have h2 : ∃ tu, vu = partValue (partOf hi tu) := by cases pu with | none => exact ⟨0, rfl⟩ | int i t => exact ⟨t, rfl⟩
  obtain ⟨tl, rfl⟩ := h1
  obtain ⟨tu, rfl⟩ := h2
  refine wpAny_getItem_str_slice (l := partOf lo tl) (u := partOf hi tu) (st := none) hs rfl ?_
  have ec := picked_cut z lo hi tl tu
  have key : tx (cutN z.cps.toList lo hi) = ⟨((slicePicked z (partOf lo tl) (partOf hi tu) none).filterMap (z.cps[·]?)).toArray⟩ := by rw [ec]; rfl
  unfold sliceMade
  split
  next hh =>
    have hl : (slicePicked z (partOf lo tl) (partOf hi tu) none).length = z.length := by simpa using hh
    rw [picked_range, List.length_map, List.length_range] at hl
    have b1 := HT.sIx_le z.length 0 (Nat.zero_le _) lo
    have b2 := HT.sIx_le z.length z.length (Nat.le_refl _) hi
    have e : tx (cutN z.cps.toList lo hi) = z := by
      unfold cutN
      rw [← len_cps, hl]
      by_cases hz0 : z.length = 0
      · have : z.cps.toList = [] := by rw [← List.length_eq_zero_iff, ← len_cps]; exact hz0
        rw [this]
        have := tx_of z
        rw [‹z.cps.toList = []›] at this
        simpa using this
      · rw [show HT.sIx z.length 0 lo = 0 by omega, List.drop_zero, List.take_of_length_le (by rw [← len_cps]; exact Nat.le_refl _)]
        exact tx_of z
    rw [e] at q
    exact ⟨.str z, H, I, ⟨t, rfl⟩, q⟩
  next =>
    rw [← key]
    refine ⟨?_, .str _, H, I.tok _, ⟨_, rfl⟩, q⟩
    rw [tx_len]
    have := cutN_length z.cps.toList lo hi
    rw [← len_cps] at this
    omega
def rSlY (K : PySem.W.Frag) : V → Option Int → Option Int → Hp → VK → Prop := fun x lo hi H Q => match x with
  | .ref a => ∃ xs, SqL K H a xs ∧ nw H (.lst (cutV xs lo hi)) Q
  | .str z => z.length ≤ sizeLine ∧ Q (.str (tx (cutN z.cps.toList lo hi))) H
  | _ => False
theorem sl_Y {X : Cx} : SlR X (rSlY X.K) := by
  intro pins s σ H x v vl vu lo hi sl Q I rx hs pl pu h
  cases x with
  | ref a =>
    obtain ⟨xs, h1, h2⟩ := h
    exact sl_list pins s σ H _ v vl vu lo hi sl Q I rx hs pl pu ⟨a, xs, rfl, h1, h2.go⟩
  | str z => exact sl_strX pins s σ H _ v vl vu lo hi sl Q I rx hs pl pu ⟨z, rfl, h.1, h.2⟩
  | _ => exact False.elim h
theorem sl_YK {X : Cx} {K : PySem.W.Frag} (hK : X.K = K) : SlR X (rSlY K) := hK ▸ sl_Y
end L2

namespace L2
open PySem PySem.Spec PyProof.Rows
def memK (x : Key) (l : List Key) : Bool := l.any fun y => decide (y = x)
def metK (val : Nat → Key) : Nat → List Key
  | 0 => []
  | i + 1 => if memK (val i) (metK val i) = true then metK val i else metK val i ++ [val i]
section
variable {prog : Program} {w : World} {A : Around} {R : Result → Shared → Prop} {c : Addr} {fp wr : List Addr} {G : Array GenState → Array GenState → Prop} {n : Nat} {Pv : Nat → Value → Prop} {Sv : Nat → Shared → Prop}
end
def valT (z : Str) (i : Nat) : Key := Sum.inr ⟨#[z.cps.toList.getD i 0]⟩
end L2

namespace L2
open PySem PySem.Spec PyProof.Rows
def setT (P : Program) (w : World) (a : Addr) (l : List Key) : HO := .ext fun h => h.SetOf (mixKind P w) a (fun x => memK x l) l.length
def rSetS (P : Program) (w : World) : List V → Hp → VK → Prop := fun vs H Q => match vs with
  | [.str z] => z.length ≤ 4000 ∧ ∀ p H', H p = none → Same H H' → H' p = some (setT P w p (metK (valT z) z.length)) → Q (.ref p) H'
  | _ => False
def rLenT (P : Program) (w : World) : List V → Hp → VK → Prop := fun vs H Q => match vs with
  | [.ref p] => ∃ l, H p = some (setT P w p l) ∧ Q (.int l.length) H
  | _ => False
def rInsert : V → List V → Hp → VK → Prop := fun x vs H Q => match x, vs with
  | .ref l, [.int i, y] => ∃ xs, H l = some (.lst xs) ∧ 0 ≤ i ∧ i < 2 ^ 62 ∧ xs.length < sizeLine ∧ Q .non (upd H l (.lst (xs.take i.toNat ++ y :: xs.drop i.toNat)))
  | _, _ => False
end L2

namespace L2
open PySem PySem.Spec PyProof.Rows
def lexGe : List Int → List Int → Bool
  | [], [] => true
  | [], _ :: _ => false
  | _ :: _, [] => true
  | a :: x, c :: y => if a = c then lexGe x y else decide (c ≤ a)
section
variable {X : Cx} {K : PySem.W.Frag}
def rGeL (K : PySem.W.Frag) : R2 := fun x y H Q => match x, y with
  | .int i, .int j => Q (.bl (decide (j ≤ i))) H
  | .ref a, .ref b => ∃ ns ms, SqL K H a (ns.map V.int) ∧ SqL K H b (ms.map V.int) ∧ Q (.bl (lexGe ns ms)) H
  | _, _ => False
def tRev (K : PySem.W.Frag) (te : TE) (ts : TO) : TE := fun σ H Q => te σ H fun x H1 => ts σ H1 fun o H2 => o = some (-1) ∧ ∃ a xs, x = .ref a ∧ SqL K H2 a xs ∧ nw H2 (.lst xs.reverse) Q
theorem ap_rev {te : TE} {ts : TO} {σ : St} {H : Hp} {Q : VK} : tRev K te ts σ H Q = te σ H fun x H1 => ts σ H1 fun o H2 => o = some (-1) ∧ ∃ a xs, x = .ref a ∧ SqL K H2 a xs ∧ nw H2 (.lst xs.reverse) Q := propext Iff.rfl
end
theorem seq_go {t u : TS} {D : Ends} {σ : St} {H : Hp} (h : ∀ nn : TS, nn = u → t { D with nx := fun σ' H' => nn D σ' H' } σ H) : tSeq t u D σ H := h u rfl
theorem for_rngO {lo : Int} {n : Nat} {g : TG} {tb : TS} {D : Ends} {σ : St} {H : Hp} (Pv : Nat → St → Hp → Prop) (h0 : Pv 0 σ H)
    (hs : ∀ i σ H, i < n → Pv i σ H → ∀ N : St → Hp → Prop, (∀ σ' H', Pv (i + 1) σ' H' → N σ' H') → g (.int (lo + i)) σ H fun σ2 H2 => tb { D with nx := N, ct := N, bk := D.nx } σ2 H2) (hd : ∀ σ H, Pv n σ H → D.nx σ H) : ForTurns g tb D (Itr lo n) σ H :=
  for_rng Pv h0 (fun i σ H hi hp => hs i σ H hi hp _ fun _ _ h => h) hd
theorem for_lstO {K : PySem.W.Frag} {a : Addr} {xs : List V} {g : TG} {tb : TS} {D : Ends} {σ : St} {H : Hp} (Pv : Nat → St → Hp → Prop) (h0 : Pv 0 σ H) (hl : ∀ i σ H, i ≤ xs.length → Pv i σ H → SqL K H a xs)
    (hs : ∀ i x σ H, xs[i]? = some x → Pv i σ H → ∀ N : St → Hp → Prop, (∀ σ' H', Pv (i + 1) σ' H' → N σ' H') → g x σ H fun σ2 H2 => tb { D with nx := N, ct := N, bk := D.nx } σ2 H2) (hd : ∀ σ H, Pv xs.length σ H → D.nx σ H) : ForTurns g tb D (Itl K a) σ H :=
  for_lst Pv h0 hl (fun i x σ H hi hp => hs i x σ H hi hp _ fun _ _ h => h) hd
end L2

namespace Mk
theorem cop_neg {m x : Int} : cop m (-x) = cop m x := by unfold cop; rw [Int.neg_gcd]
theorem set_two {α : Type} : ∀ (l : List α) (j : Nat) (x y : α), j + 1 < l.length → (l.set j x).set (j + 1) y = l.take j ++ (x :: y :: l.drop (j + 2))
  | [], _, _, _, h => by simp at h
  | [_], _, _, _, h => by simp at h
  | a :: b :: l, 0, x, y, _ => rfl
  | a :: b :: l, j + 1, x, y, h => by
    have := set_two (b :: l) j x y (by simpa using h)
    simp only [List.set_cons_succ, List.take_succ_cons, List.drop_succ_cons, List.cons_append]
    rw [this]
    rfl
end Mk

namespace Mk
def splitL (c : Nat) : List Nat → List (List Nat)
  | [] => [[]]
  | a :: l => if a = c then [] :: splitL c l else match splitL c l with
    | [] => [[a]]
    | w :: ws => (a :: w) :: ws
end Mk
namespace L2
open PySem PySem.Spec PyProof.Rows
def rSplit : V → List V → Hp → VK → Prop := fun x vs H Q => match x, vs with
  | .str z, [.str y] => z.length ≤ 100000 ∧ ∃ c, y = tx [c] ∧ nw H (.lst ((Mk.splitL c z.cps.toList).map fun w => .str (tx w))) Q
  | _, _ => False
def tDisp1 (tk tv : TE) : TE := fun σ H Q => ∀ p H', H p = none → Same H H' → H' p = some (.dT []) → tk σ H' fun x H1 => tv σ H1 fun y H2 => ∃ b ks, x = .ref b ∧ H2 b = some (.tup (ks.map kV)) ∧ H2 p = some (.dT []) ∧ Q (.ref p) (upd H2 p (.dT (putK [] ks y)))
theorem ap_disp1 {tk tv : TE} {σ : St} {H : Hp} {Q : VK} : tDisp1 tk tv σ H Q = ∀ p H', H p = none → Same H H' → H' p = some (.dT []) → tk σ H' fun x H1 => tv σ H1 fun y H2 => ∃ b ks, x = .ref b ∧ H2 b = some (.tup (ks.map kV)) ∧ H2 p = some (.dT []) ∧ Q (.ref p) (upd H2 p (.dT (putK [] ks y))) := propext Iff.rfl
def rMulS : R2 := fun x y H Q => match x, y with
  | .int i, .int j => (i.natAbs < 2 ^ 60 ∨ j.natAbs < 2 ^ 60) ∧ Q (.int (i * j)) H
  | _, _ => False
end L2

namespace L2
open PySem PySem.Spec PyProof.Rows
theorem ev_rAddX_1 {i j} {H : Hp} {Q : VK} : rAddX (.int i) (.int j) H Q = (Q (.int (i + j)) H) := propext Iff.rfl
theorem ev_rAddX_2 {a b} {H : Hp} {Q : VK} : rAddX (.str a) (.str b) H Q = (a.length + b.length ≤ sizeLine ∧ Q (.str (a ++ b)) H) := propext Iff.rfl
theorem ev_rAddX_3 {l b} {H : Hp} {Q : VK} : rAddX (.ref l) (.ref b) H Q = (∃ xs zs, H l = some (.lst xs) ∧ H b = some (.lst zs) ∧ xs.length + zs.length ≤ sizeLine ∧ nw H (.lst (xs ++ zs)) Q) := propext Iff.rfl
theorem ev_rSubX_1 {i j} {H : Hp} {Q : VK} : rSubX (.int i) (.int j) H Q = (Q (.int (i - j)) H) := propext Iff.rfl
theorem ev_rMulX_1 {i j} {H : Hp} {Q : VK} : rMulX (.int i) (.int j) H Q = (CBig i j ∧ Q (.int (i * j)) H) := propext Iff.rfl
theorem ev_rMulX_2 {l k} {H : Hp} {Q : VK} : rMulX (.ref l) (.int k) H Q = (∃ xs, H l = some (.lst xs) ∧ -(2 ^ 63) ≤ k ∧ k < 2 ^ 63 ∧ xs.length * k.toNat ≤ sizeLine ∧ nw H (.lst (List.replicate k.toNat xs).flatten) Q) := propext Iff.rfl
theorem ev_rFdivX_1 {i j} {H : Hp} {Q : VK} : rFdivX (.int i) (.int j) H Q = ((0 < j ∧ j < 2 ^ 1000) ∧ Q (.int (i / j)) H) := propext Iff.rfl
theorem ev_rModX_1 {i j} {H : Hp} {Q : VK} : rModX (.int i) (.int j) H Q = (0 < j ∧ Q (.int (i % j)) H) := propext Iff.rfl
theorem ev_rPowX_1 {i j} {H : Hp} {Q : VK} : rPowX (.int i) (.int j) H Q = ((0 ≤ j ∧ j ≤ 1000000 ∧ i.natAbs < 2 ^ 64) ∧ Q (.int (i ^ j.toNat)) H) := propext Iff.rfl
theorem ev_rCmpX_1 {f : Int → Int → Bool} {i j} {H : Hp} {Q : VK} : rCmpX f (.int i) (.int j) H Q = (Q (.bl (f i j)) H) := propext Iff.rfl
theorem ev_rGeL_1 {K : PySem.W.Frag} {i j} {H : Hp} {Q : VK} : rGeL K (.int i) (.int j) H Q = (Q (.bl (decide (j ≤ i))) H) := propext Iff.rfl
theorem ev_rGeL_2 {K : PySem.W.Frag} {a b} {H : Hp} {Q : VK} : rGeL K (.ref a) (.ref b) H Q = (∃ ns ms, SqL K H a (ns.map V.int) ∧ SqL K H b (ms.map V.int) ∧ Q (.bl (lexGe ns ms)) H) := propext Iff.rfl
theorem ev_rEqX_1 {K : PySem.W.Frag} {i j} {H : Hp} {Q : VK} : rEqX K (.int i) (.int j) H Q = (Q (.bl (decide (i = j))) H) := propext Iff.rfl
theorem ev_rEqX_2 {K : PySem.W.Frag} {i j} {H : Hp} {Q : VK} : rEqX K (.bl i) (.bl j) H Q = (Q (.bl (decide (i = j))) H) := propext Iff.rfl
theorem ev_rEqX_3 {K : PySem.W.Frag} {i j} {H : Hp} {Q : VK} : rEqX K (.str i) (.str j) H Q = (Q (.bl (decide (i = j))) H) := propext Iff.rfl
theorem ev_rEqX_4 {K : PySem.W.Frag} {a b} {H : Hp} {Q : VK} : rEqX K (.ref a) (.ref b) H Q = (∃ xs ys, SqL K H a xs ∧ SqL K H b ys ∧ xs.all flatV = true ∧ ys.all flatV = true ∧ Q (.bl (eqVs xs ys)) H) := propext Iff.rfl
theorem ev_rNeX_1 {K : PySem.W.Frag} {i j} {H : Hp} {Q : VK} : rNeX K (.int i) (.int j) H Q = (Q (.bl (!decide (i = j))) H) := propext Iff.rfl
theorem ev_rNeX_2 {K : PySem.W.Frag} {i j} {H : Hp} {Q : VK} : rNeX K (.bl i) (.bl j) H Q = (Q (.bl (!decide (i = j))) H) := propext Iff.rfl
theorem ev_rNeX_3 {K : PySem.W.Frag} {i j} {H : Hp} {Q : VK} : rNeX K (.str i) (.str j) H Q = (Q (.bl (!decide (i = j))) H) := propext Iff.rfl
theorem ev_rNeX_4 {K : PySem.W.Frag} {a b} {H : Hp} {Q : VK} : rNeX K (.ref a) (.ref b) H Q = (∃ xs ys, SqL K H a xs ∧ SqL K H b ys ∧ xs.all flatV = true ∧ ys.all flatV = true ∧ Q (.bl (!eqVs xs ys)) H) := propext Iff.rfl
theorem ev_rIxX_1 {K : PySem.W.Frag} {p i} {H : Hp} {Q : VK} : rIxX K (.ref p) (.int i) H Q = (∃ xs v, Sq K H p xs ∧ atI xs i = some v ∧ Q v H) := propext Iff.rfl
theorem ev_rIxX_2 {K : PySem.W.Frag} {z i} {H : Hp} {Q : VK} : rIxX K (.str z) (.int i) H Q = (z.length ≤ sizeLine ∧ ∃ c, atI z.cps.toList i = some c ∧ Q (.str ⟨#[c]⟩) H) := propext Iff.rfl
theorem ev_rLenX_1 {K : PySem.W.Frag} {z} {H : Hp} {Q : VK} : rLenX K [.str z] H Q = (z.length ≤ sizeLine ∧ Q (.int z.length) H) := propext Iff.rfl
theorem ev_rLenX_2 {K : PySem.W.Frag} {p} {H : Hp} {Q : VK} : rLenX K [.ref p] H Q = (∃ xs, Sq K H p xs ∧ Q (.int xs.length) H) := propext Iff.rfl
theorem ev_rAbsX_1 {i} {H : Hp} {Q : VK} : rAbsX [.int i] H Q = (Q (.int (i.natAbs : Int)) H) := propext Iff.rfl
theorem ev_rMinX_1 {i j} {H : Hp} {Q : VK} : rMinX [.int i, .int j] H Q = (Q (.int (min i j)) H) := propext Iff.rfl
theorem ev_rMaxX_1 {i j} {H : Hp} {Q : VK} : rMaxX [.int i, .int j] H Q = (Q (.int (max i j)) H) := propext Iff.rfl
theorem ev_rListX_1 {K : PySem.W.Frag} {a} {H : Hp} {Q : VK} : rListX K [.ref a] H Q = (∃ ys, (Sq K H a ys ∨ ∃ lo hi, H a = some (.rng lo hi) ∧ (-(2 ^ 62) ≤ lo ∧ lo < 2 ^ 62 ∧ -(2 ^ 62) ≤ hi ∧ hi < 2 ^ 62) ∧ (hi - lo).toNat ≤ 2 ^ 20 ∧ ys = rngV lo (hi - lo).toNat) ∧ nw H (.lst ys) Q) := propext Iff.rfl
theorem ev_rRngX_1 {j} {H : Hp} {Q : VK} : rRngX [.int j] H Q = (nw H (.rng 0 j) Q) := propext Iff.rfl
theorem ev_rIsiC_1 {c : Tg} {x n} {H : Hp} {Q : VK} : rIsiC c [x, .ty n] H Q = (n = c.name ∧ ∃ t, tagV H x = some t ∧ Q (.bl (t.sub c)) H) := propext Iff.rfl
theorem ev_rSlX_1 {K : PySem.W.Frag} {a} {lo} {hi} {H : Hp} {Q : VK} : rSlX K (.ref a) lo hi H Q = (∃ xs, SqL K H a xs ∧ nw H (.lst (cutV xs lo hi)) Q) := propext Iff.rfl
theorem ev_rSlY_1 {K : PySem.W.Frag} {a} {lo} {hi} {H : Hp} {Q : VK} : rSlY K (.ref a) lo hi H Q = (∃ xs, SqL K H a xs ∧ nw H (.lst (cutV xs lo hi)) Q) := propext Iff.rfl
theorem ev_rSlY_2 {K : PySem.W.Frag} {z} {lo} {hi} {H : Hp} {Q : VK} : rSlY K (.str z) lo hi H Q = (z.length ≤ sizeLine ∧ Q (.str (tx (cutN z.cps.toList lo hi))) H) := propext Iff.rfl
theorem ev_rInsert_1 {l i y} {H : Hp} {Q : VK} : rInsert (.ref l) [.int i, y] H Q = (∃ xs, H l = some (.lst xs) ∧ 0 ≤ i ∧ i < 2 ^ 62 ∧ xs.length < sizeLine ∧ Q .non (upd H l (.lst (xs.take i.toNat ++ y :: xs.drop i.toNat)))) := propext Iff.rfl
theorem ev_rIndexS_1 {z y} {H : Hp} {Q : VK} : rIndexS (.str z) [.str y] H Q = (0 ≤ Txt.find z y ∧ Q (.int (Txt.find z y)) H) := propext Iff.rfl
theorem ev_rJoinS_1 {K : PySem.W.Frag} {z p} {H : Hp} {Q : VK} : rJoinS K (.str z) [.ref p] H Q = (∃ ys : List Str, SqL K H p (ys.map V.str) ∧ (ys.map (·.length)).sum + ys.length * z.length ≤ 16777216 ∧ Q (.str (Txt.join z ys)) H) := propext Iff.rfl
theorem ev_rSplit_1 {z y} {H : Hp} {Q : VK} : rSplit (.str z) [.str y] H Q = (z.length ≤ 100000 ∧ ∃ c, y = tx [c] ∧ nw H (.lst ((Mk.splitL c z.cps.toList).map fun w => .str (tx w))) Q) := propext Iff.rfl
theorem ev_rMulS_1 {i j} {H : Hp} {Q : VK} : rMulS (.int i) (.int j) H Q = ((i.natAbs < 2 ^ 60 ∨ j.natAbs < 2 ^ 60) ∧ Q (.int (i * j)) H) := propext Iff.rfl
theorem ev_rSetS_1 {P : Program} {w : World} {z} {H : Hp} {Q : VK} : rSetS P w [.str z] H Q = (z.length ≤ 4000 ∧ ∀ p H', H p = none → Same H H' → H' p = some (setT P w p (metK (valT z) z.length)) → Q (.ref p) H') := propext Iff.rfl
theorem ev_rLenT_1 {P : Program} {w : World} {p} {H : Hp} {Q : VK} : rLenT P w [.ref p] H Q = (∃ l, H p = some (setT P w p l) ∧ Q (.int l.length) H) := propext Iff.rfl
theorem ev_iSeqV_1 {K : PySem.W.Frag} {a : Addr} {H : Hp} {R : It → Hp → Prop} : iSeqV K (.ref a) H R = (((∃ xs, SqL K H a xs) ∧ R (Itl K a) H) ∨ ((∃ xs, SqT K H a xs) ∧ R (Itt K a) H)) := propext Iff.rfl
theorem ev_iSeqV_2 {K : PySem.W.Frag} {z : Str} {H : Hp} {R : It → Hp → Prop} : iSeqV K (.str z) H R = R (Itx z) H := propext Iff.rfl
end L2

namespace L2
open PySem PySem.Spec PyProof.Rows
def Ite (K : PySem.W.Frag) (a : Addr) : It :=
  ⟨fun i H => ∃ xs x, SqL K H a xs ∧ xs[i]? = some x,
   fun i H v H' => ∃ x p, (∀ xs, SqL K H a xs → xs[i]? = some x) ∧ v = .ref p ∧ H p = none ∧ H' = upd H p (.tup [.int (i : Int), x]),
   fun i H => ∃ xs, SqL K H a xs ∧ xs.length ≤ i⟩
theorem enum_obj {h : Heap} {a e it : Addr} {i : Nat} (st : (∃ old, IsEnum h e it (i : Int) old) ∧ h.IsListIter it a i) : ∀ c ∈ [e, it], ∃ o, h.get? c = some o ∧ ∀ v, o.data ≠ .cell v := fun c hc => by
  obtain ⟨⟨old, he⟩, ⟨o1, e1, c1, d1⟩⟩ := st
  simp only [List.mem_cons, List.not_mem_nil, or_false] at hc
  rcases hc with rfl | rfl
  · exact ⟨_, he, fun v q => by have q' : Data.fields _ = Data.cell v := q; cases q'⟩
  · exact ⟨o1, e1, fun v q => by rw [d1] at q; cases q⟩
theorem turn_enum {P : Program} {w : World} {K : PySem.W.Frag} {elts : List Expr} {k : Nat} {pos : Pos} (a e it : Addr) (D : e ≠ it) : Turn P w K (.Tuple elts k pos) (Ite K a) [e, it] e
    (fun i h => (∃ old, IsEnum h e it (i : Int) old) ∧ h.IsListIter it a i) where
  mem := by simp
  obj := fun i h st => enum_obj st
  keep := fun i h h' st k => by
    obtain ⟨⟨old, he⟩, h1⟩ := st
    exact ⟨⟨old, k e (by simp) _ he⟩, h1.at fun o e => k it (by simp) o e⟩
  item := by
    intro X hP hw hK hc i pins s σ H E I hf st hg
    subst hP hw hK
    obtain ⟨xs, x, hx, ex⟩ := hg
    obtain ⟨us, r1, p1, _⟩ := I.list hx
    obtain ⟨u, hu, ru⟩ := r1.get ex
    obtain ⟨⟨old, he⟩, h1⟩ := id st
    refine wpAny_pyNext_enum_item he h1 p1.isList (x := u) (by simpa using hu) D fun h' a1 a2 a3 a4 a5 => ?_
    refine ⟨_, rfl, wpAny_letOwnedTupleGo_enum (s := { s with heap := h', toks := s.toks + 1 }) a1 fun h'' b1 b2 => ?_⟩
    have b2' : Heap.SameBut e h' h'' := b2
    have ne : ∀ c ∈ [e, it], c < s.heap.objs.size := fun c hc => by
      obtain ⟨o, e, _⟩ := enum_obj st c hc
      exact Heap.lt_size e
    have kk : ∀ c o, c ∉ [e, it] → s.heap.get? c = some o → h''.get? c = some o := fun c o hc e => by
      simp only [List.mem_cons, List.not_mem_nil, or_false, not_or] at hc
      exact (b2'.2 c hc.1).trans (a5 c o hc.1 hc.2 e)
    have hT : h''.get? s.heap.objs.size = some { cls := .type "tuple", data := .seq #[.int (i : Int) s.toks, u] } := (b2'.2 _ (Nat.ne_of_gt (ne e (by simp)))).trans a3
    have I1 : Inv X pins σ (upd H s.heap.objs.size (.tup [.int (i : Int), x])) { s with heap := h'', toks := s.toks + 1 } := by
      refine I.turnNew (t' := s.toks + 1) (ch := [e, it]) hf kk (fun c o ee => ?_) (Nat.le_refl _) (show ObjOk X.prog X.w _ h'' _ (.tup [.int (i : Int), x]) from ⟨by show 2 ≤ sizeLine; decide, [.int (i : Int) s.toks, u], .cons ⟨_, rfl⟩ (.cons ru .nil), ⟨_, hT, rfl, _, rfl⟩⟩)
      by_cases hc : c ∈ [e, it]
      · simp only [List.mem_cons, List.not_mem_nil, or_false] at hc
        rcases hc with rfl | rfl
        · exact ⟨_, b1⟩
        · obtain ⟨o1, e1, _⟩ := a2; exact ⟨_, (b2'.2 _ (Ne.symm D)).trans e1⟩
      · exact ⟨_, kk c o hc ee⟩
    refine ⟨.ref s.heap.objs.size, _, I1, rfl, ⟨x, _, fun zs hz => by rw [I.list_inj hz hx]; exact ex, rfl, I.hok.fresh (Nat.le_refl _), rfl⟩, ⟨⟨_, by have := b1; rw [show ((i + 1 : Nat) : Int) = (i : Int) + 1 from rfl]; exact this⟩, a2.at fun o e => (b2'.2 _ (Ne.symm D)).trans e⟩, fun c hc => ?_⟩
    rw [upd_ne (Nat.ne_of_lt (ne c hc))]; exact (hf c hc).1
  done := by
    intro X hP hw hK hc i pins s σ H E I hf st hg
    subst hP hw hK
    obtain ⟨xs, hx, hl⟩ := hg
    obtain ⟨us, r1, p1, _⟩ := I.list hx
    obtain ⟨⟨old, he⟩, h1⟩ := id st
    have l1 := r1.length
    refine wpAny_pyNext_enum_end (I.ok.hd hc) he h1 p1.isList (by simp; omega) fun h' kk => ⟨rfl, I.turnL (t' := s.toks) (ch := [e, it]) hf fun c o hc e => ?_⟩
    simp only [List.mem_cons, List.not_mem_nil, or_false, not_or] at hc
    exact kk c o hc.2 e
  self := fun _ _ _ _ _ st h => by
    obtain ⟨⟨old, he⟩, _⟩ := st
    exact wpAny_pyIter_enum he h
section
variable {X : Cx}
def iEnum (K : PySem.W.Frag) (ta : TA) : TI := fun σ H R => ta σ H fun vs H1 => ∃ a, vs = [.ref a] ∧ (∃ xs, SqL K H1 a xs) ∧ R (Ite K a) H1
theorem ap_iEnum {K : PySem.W.Frag} {ta : TA} {σ : St} {H : Hp} {R : It → Hp → Prop} : iEnum K ta σ H R = ta σ H fun vs H1 => ∃ a, vs = [.ref a] ∧ (∃ xs, SqL K H1 a xs) ∧ R (Ite K a) H1 := propext Iff.rfl
theorem pi_enum {elts : List Expr} {k : Nat} {tpos : Pos} {a : Expr} {ta : TA} {p pos : Pos} (hg : Gl X "enumerate") (hm : X.mg "enumerate" = none) (ha : PA X [a] ta) (hs : starEach [a] X.env = [(false, eval a X.env)] := by rfl) :
    PI X (.Tuple elts k tpos) (.Call (.Name "enumerate" p) [a] [] pos) (iEnum X.K ta) := by
  intro pins s σ H R I h
  refine Call_ (ld_blt I hg hm bt_enumerate (PyProof.Rows.callWith_type1 (thn (ha pos pins s σ H _ I h) fun us s1 ⟨vs, H1, I1, r1, q1⟩ => ?_) hs (by rfl)))
  obtain ⟨l1, e, ⟨xs, hx⟩, q⟩ := q1
  subst e
  cases r1 with
  | cons r rr =>
    cases rr
    cases r
    obtain ⟨us, _, p1, _⟩ := I1.list hx
    refine call_enumerate_list p1.isList fun h' he hi hsz hk => wpAny_pyIter_enum (s := { s1 with heap := h' }) he ?_
    have I2 : Inv X pins σ H1 { s1 with heap := h' } := I1.kept (t' := s1.toks) hk
    refine ⟨_, [s1.heap.objs.size + 1, s1.heap.objs.size], _, _, H1, rfl, I2, turn_enum l1 (s1.heap.objs.size + 1) s1.heap.objs.size (Nat.succ_ne_self _), ⟨⟨_, he⟩, hi⟩, fun c hc => ?_, q⟩
    have hle : s1.heap.objs.size ≤ c := by
      simp only [List.mem_cons, List.not_mem_nil, or_false] at hc
      rcases hc with rfl | rfl <;> omega
    exact I1.fpOk hle (I1.hok.fresh hle)
theorem pi_enumG {K : PySem.W.Frag} {elts : List Expr} {k : Nat} {tpos : Pos} {a : Expr} {ta : TA} {p pos : Pos} (hK : X.K = K) (hm : X.mg "enumerate" = none) (ha : PA X [a] ta) (hg : X.env.kindOf "enumerate" = some .globalImplicit := by kernel_rfl) (hs : noStar a = true := by kernel_rfl) :
    PI X (.Tuple elts k tpos) (.Call (.Name "enumerate" p) [a] [] pos) (iEnum K ta) := hK ▸ pi_enum hg hm ha (starEach_cons hs)
end
theorem for_enumO {K : PySem.W.Frag} {a : Addr} {xs : List V} {g : TG} {tb : TS} {D : Ends} {σ : St} {H : Hp} (Pv : Nat → St → Hp → Prop) (h0 : Pv 0 σ H) (hl : ∀ i σ H, i ≤ xs.length → Pv i σ H → SqL K H a xs)
    (hs : ∀ i x σ H, xs[i]? = some x → Pv i σ H → ∀ N : St → Hp → Prop, (∀ σ' H', Pv (i + 1) σ' H' → N σ' H') → ∀ p H', H p = none → Same H H' → H' p = some (.tup [.int (i : Int), x]) → g (.ref p) σ H' fun σ2 H2 => tb { D with nx := N, ct := N, bk := D.nx } σ2 H2) (hd : ∀ σ H, Pv xs.length σ H → D.nx σ H) : ForTurns g tb D (Ite K a) σ H := by
  refine ⟨fun i m σ H => i + m = xs.length ∧ Pv i σ H, ⟨xs.length, by omega, h0⟩, fun i m σ H hw => ?_⟩
  obtain ⟨e, hp⟩ := hw
  have hL := hl i σ H (by omega) hp
  by_cases hm : m = 0
  · subst hm
    have : i = xs.length := by omega
    subst this
    exact .inl ⟨⟨xs, hL, Nat.le_refl _⟩, hd σ H hp⟩
  · have hi : xs[i]? = some xs[i] := List.getElem?_eq_getElem (by omega)
    refine .inr ⟨⟨xs, _, hL, hi⟩, Pv (i + 1), fun σ' H' n => ⟨m - 1, by omega, by omega, n⟩, fun v H' hy => ?_⟩
    obtain ⟨x, p, h1, rfl, h2, rfl⟩ := hy
    have hx := h1 xs hL
    exact hs i x σ H hx hp _ (fun _ _ h => h) p _ h2 (same_upd h2) upd_same
def Its (lo st : Int) (n : Nat) : It := ⟨fun i _ => i < n, fun i H x H' => H' = H ∧ x = .int (lo + (i : Nat) * st), fun i _ => n ≤ i⟩
theorem turn_rangeS {P : Program} {w : World} {K : PySem.W.Frag} {tg : Expr} (it : Addr) (lo st : Int) (n : Nat) : Turn P w K tg (Its lo st n) [it] it (fun i h => IsRangeIter h it (lo + (i : Nat) * st) ((n : Int) - (i : Nat)) st) where
  mem := by simp
  obj := fun i h sti b hb => by
    obtain rfl : b = it := by simpa using hb
    exact ⟨_, sti, fun v z => by have z' : Data.fields _ = Data.cell v := z; cases z'⟩
  keep := fun i h h' sti k => k it (by simp) _ sti
  item := by
    intro X hP hw hK hc i pins s σ H E I hf sti hg
    subst hP hw hK
    obtain ⟨f0, f1, f2, f3, f4, f5⟩ := hf it (by simp)
    refine (Walks.range (prog := X.prog) (w := X.w) (I.ok.hd hc) it lo st n).item i s _ _ hg sti fun v h' tk hv st' kk => ?_
    obtain ⟨t, rfl⟩ := hv
    have I1 : Inv X pins σ H { s with heap := h', toks := tk } := I.turned (fun b o hb e => kk b o (by simpa using hb) e) f0 f1 f3 f4 f5
    exact ⟨_, rfl, go_of (s := { s with heap := h', toks := tk }) (n := "range_iterator") st' rfl rfl (by decide) ⟨.int (lo + (i : Nat) * st), H, I1, ⟨t, rfl⟩, ⟨rfl, rfl⟩, st', fun b hb => (hf b hb).1⟩⟩
  done := by
    intro X hP hw hK hc i pins s σ H E I hf sti hg
    subst hP hw hK
    obtain ⟨f0, f1, f2, f3, f4, f5⟩ := hf it (by simp)
    refine wpAny_pyNext_range_end (I.ok.hd hc) sti (by have : n ≤ i := hg; omega) fun h' eb => ⟨rfl, I.turned (t' := s.toks) (fun b o hb e => eb b o hb e) f0 f1 f3 f4 f5⟩
  self := fun _ _ _ _ _ sti h => wpAny_pyIter_rangeiter sti h
def rngN (lo hi st : Int) : Nat := if lo < hi then ((hi - lo - 1) / st + 1).toNat else 0
theorem rngN_size {lo hi st : Int} (hs : 0 < st) : ((rngN lo hi st : Nat) : Int) = Builtin.Range.rangeSize lo hi st := by
  unfold rngN Builtin.Range.rangeSize
  rw [if_pos hs]
  by_cases h : lo < hi
  · rw [if_pos h, if_pos h]
    have : 0 ≤ (hi - lo - 1) / st := Int.ediv_nonneg (by omega) (by omega)
    omega
  · rw [if_neg h, if_neg h]; rfl
theorem small_S {lo hi st : Int} (h1 : 0 ≤ lo ∧ lo ≤ 1000) (h2 : 0 ≤ hi ∧ hi ≤ 1000) (h3 : 0 < st ∧ st ≤ 1000) : Builtin.Range.small lo hi st = true := by
  have hz : 0 ≤ Builtin.Range.rangeSize lo hi st ∧ Builtin.Range.rangeSize lo hi st ≤ 1001 := by
    unfold Builtin.Range.rangeSize
    rw [if_pos h3.1]
    by_cases h : lo < hi
    · rw [if_pos h]
      have a1 : 0 ≤ (hi - lo - 1) / st := Int.ediv_nonneg (by omega) (by omega)
      have a2 : (hi - lo - 1) / st ≤ hi - lo - 1 := Int.ediv_le_self _ (by omega)
      omega
    · rw [if_neg h]; omega
  have hf : ∀ x : Int, 0 ≤ x → x ≤ 5000 → Builtin.Range.rangeFitsLong x = true := fun x a b => by
    unfold Builtin.Range.rangeFitsLong
    simp only [Bool.and_eq_true, decide_eq_true_eq]
    omega
  unfold Builtin.Range.small
  rw [hf lo (by omega) (by omega), hf hi (by omega) (by omega), hf st (by omega) (by omega), hf _ hz.1 (by omega), if_pos h3.1, hf (hi + (st - 1)) (by omega) (by omega), Bool.or_true]
  rfl
section
variable {X : Cx} {tg : Expr}
def iRng3 (ta : TA) : TI := fun σ H R => ta σ H fun vs H1 => ∃ i j k : Int, vs = [.int i, .int j, .int k] ∧ (0 ≤ i ∧ i ≤ 1000) ∧ (0 ≤ j ∧ j ≤ 1000) ∧ (0 < k ∧ k ≤ 1000) ∧ R (Its i k (rngN i j k)) H1
theorem ap_iRng3 {ta : TA} {σ : St} {H : Hp} {R : It → Hp → Prop} : iRng3 ta σ H R = ta σ H fun vs H1 => ∃ i j k : Int, vs = [.int i, .int j, .int k] ∧ (0 ≤ i ∧ i ≤ 1000) ∧ (0 ≤ j ∧ j ≤ 1000) ∧ (0 < k ∧ k ≤ 1000) ∧ R (Its i k (rngN i j k)) H1 := propext Iff.rfl
theorem pi_range3 {a b c : Expr} {ta : TA} {p pos : Pos} (hg : Gl X "range") (hm : X.mg "range" = none) (ha : PA X [a, b, c] ta) (hs : starEach [a, b, c] X.env = [(false, eval a X.env), (false, eval b X.env), (false, eval c X.env)]) (hs2 : starEach [b, c] X.env = [(false, eval b X.env), (false, eval c X.env)]) :
    PI X tg (.Call (.Name "range" p) [a, b, c] [] pos) (iRng3 ta) := by
  intro pins s σ H R I h
  refine Call_ (ld_blt I hg hm boot_range (PyProof.Rows.callWith_type1 (thn (ha pos pins s σ H _ I h) fun us s1 ⟨vs, H1, I1, r1, q1⟩ => ?_) (by rw [hs, hs2]) (by rw [hs2]; rfl)))
  obtain ⟨i, j, k, e, b1, b2, b3, q⟩ := q1
  subst e
  cases r1 with
  | cons r rr =>
    cases rr with
    | cons r' rr =>
      cases rr with
      | cons r'' rr =>
        cases rr
        obtain ⟨t, rfl⟩ := r
        obtain ⟨t', rfl⟩ := r'
        obtain ⟨t'', rfl⟩ := r''
        refine call_range_3 (by omega) ?_ (.inl (PyProof.noPylong_of_log2 ?_))
        · refine wpAny_pyIter_range (IsRange.new ..) (small_S b1 b2 b3) ?_
          have I2 : Inv X pins σ H1 { s1 with heap := s1.heap.push { cls := .type "range", data := .fields #[.int i t, .int j t', .int k t''] } } := I1.kept (t' := s1.toks) fun b o e => Heap.get?_push_of_some _ e
          refine ⟨(s1.heap.push { cls := .type "range", data := .fields #[.int i t, .int j t', .int k t''] }).objs.size, [(s1.heap.push { cls := .type "range", data := .fields #[.int i t, .int j t', .int k t''] }).objs.size], _, _, H1, rfl,
            I2.kept (t' := s1.toks) fun b o e => Heap.get?_push_of_some _ e, turn_rangeS _ i k (rngN i j k), ?_, fun b hb => ?_, q⟩
          · show IsRangeIter _ _ (i + ((0 : Nat) : Int) * k) (((rngN i j k : Nat) : Int) - ((0 : Nat) : Int)) k
            rw [rngN_size b3.1, show i + ((0 : Nat) : Int) * k = i by simp, show Builtin.Range.rangeSize i j k - ((0 : Nat) : Int) = Builtin.Range.rangeSize i j k by simp]
            exact Heap.get?_push_size _ rfl
          · obtain rfl : b = (s1.heap.push { cls := .type "range", data := .fields #[.int i t, .int j t', .int k t''] }).objs.size := by simpa using hb
            exact I2.fpOk (Nat.le_refl _) (I2.hok.fresh (Nat.le_refl _))
        · have h4 : k.natAbs ≠ 0 := by omega
          exact Nat.lt_of_lt_of_le ((Nat.log2_lt h4).mpr (show k.natAbs < 2 ^ 10 by omega)) (by decide)
theorem pi_range3G {a b c : Expr} {ta : TA} {p pos : Pos} (hm : X.mg "range" = none) (ha : PA X [a, b, c] ta) (hg : X.env.kindOf "range" = some .globalImplicit := by kernel_rfl) (hs : noStar a = true := by kernel_rfl) (hs2 : noStar b = true := by kernel_rfl) (hs3 : noStar c = true := by kernel_rfl) :
    PI X tg (.Call (.Name "range" p) [a, b, c] [] pos) (iRng3 ta) := pi_range3 hg hm ha (by rw [starEach_cons hs, starEach_cons hs2, starEach_cons hs3]; rfl) (by rw [starEach_cons hs2, starEach_cons hs3]; rfl)
end
theorem for_rngS {lo st : Int} {n : Nat} {g : TG} {tb : TS} {D : Ends} {σ : St} {H : Hp} (Pv : Nat → St → Hp → Prop) (h0 : Pv 0 σ H)
    (hs : ∀ i σ H, i < n → Pv i σ H → ∀ N : St → Hp → Prop, (∀ σ' H', Pv (i + 1) σ' H' → N σ' H') → g (.int (lo + (i : Nat) * st)) σ H fun σ2 H2 => tb { D with nx := N, ct := N, bk := D.nx } σ2 H2) (hd : ∀ σ H, Pv n σ H → D.nx σ H) : ForTurns g tb D (Its lo st n) σ H := by
  refine ⟨fun i m σ H => i + m = n ∧ Pv i σ H, ⟨n, by omega, h0⟩, fun i m σ H hw => ?_⟩
  obtain ⟨e, hp⟩ := hw
  by_cases hm : m = 0
  · subst hm
    have : i = n := by omega
    subst this
    exact .inl ⟨Nat.le_refl _, hd σ H hp⟩
  · refine .inr ⟨by show i < n; omega, Pv (i + 1), fun σ' H' h => ⟨m - 1, by omega, by omega, h⟩, fun v H' hy => ?_⟩
    obtain ⟨rfl, rfl⟩ := hy
    exact hs i σ H' (by omega) hp _ fun _ _ h => h
def Iti (ob : Obj) (a : Addr) (kvs : List (Key × V)) : It :=
  ⟨fun i H => i < kvs.length ∧ H a = some (.frz ob (.dK kvs)),
   fun i H v H' => ∃ k x p, kvs[i]? = some (k, x) ∧ v = .ref p ∧ H p = none ∧ H' = upd H p (.tup [kV k, x]),
   fun i H => kvs.length ≤ i ∧ H a = some (.frz ob (.dK kvs))⟩
theorem rel_key {k : Key} {v : Value} (h : keyIs k v = true) : RelV (kV k) v := by
  rcases keyIs_shape h with ⟨i, t, rfl, rfl⟩ | ⟨x, t, rfl, rfl⟩
  · exact ⟨t, rfl⟩
  · exact ⟨t, rfl⟩
theorem kv_get {kvs : List (Key × V)} {vs : List (Key × Value)} (r : KV kvs vs) : ∀ {i : Nat} {p : Key × V}, kvs[i]? = some p → ∃ q, vs[i]? = some q ∧ p.1 = q.1 ∧ RelV p.2 q.2 := by
  unfold KV at r
  induction r with
  | nil => intro i p h; simp at h
  | @cons a b as bs h t ih =>
    intro i p hp
    cases i with
    | zero =>
      rw [List.getElem?_cons_zero] at hp
      cases hp
      exact ⟨b, rfl, h⟩
    | succ i => exact ih (by simpa using hp)
theorem entry_itemiter_iter : entryFor table "dict_itemiterator.__iter__" = some Builtin.«dict_keyiterator.__iter__» := entryFor_alias (id' := "dict_keyiterator.__iter__") (by kernel_rfl) (by kernel_rfl) (by kernel_rfl) (by kernel_rfl)
theorem iter_itemiter {prog : Program} {w : World} {A : Around} {E : Value → Shared → Prop} {s : Shared} {it d : Addr} {i n ep : Nat} {ok ov : Value} {Q : Value → Shared → Prop} (st : IsItemIter s.heap it d i n ep ok ov) (h : Q (.ref it) s) : wpAny (model prog w) A (pyIter (.ref it)) Q E s := by
  have hT : s.TypeIs (.ref it) "dict_itemiterator" := ⟨_, st, rfl⟩
  refine wpAny_pyIter_slot hT F.slot_dict_itemiterator_iter (wpAny_call_entry F.slot_dict_itemiterator_iter hT entry_itemiter_iter ?_ (F.args_dict_itemiterator_iter_1 (Value.ref it)))
  exact wpAny_pure ⟨.ref it, rfl, "dict_itemiterator", .builtin "dict_itemiterator.__next__", hT, F.slot_dict_itemiterator_next.lookup, h⟩
theorem frz_dict {P : Program} {w : World} {H : Hp} {h : Heap} {a : Addr} {ob : Obj} {kvs : List (Key × V)} {es : Array DictEntry} {ep : Nat} (x : HOk P w H h) (e : H a = some (.frz ob (.dK kvs))) (hd : ob.data = .dict es ep) :
    ∃ vs, KV kvs vs ∧ h.DictAt (mixKind P w) a vs ep := by
  obtain ⟨h1, _, _, vs, r, o, es', ep', h2, h3, h4, h5⟩ := (show ObjOk P w H h a (.frz ob (.dK kvs)) from x a _ e)
  have : o = ob := Option.some.inj (h2.symm.trans h1)
  subst this
  rw [hd] at h4
  injection h4 with e1 e2
  subst e1 e2
  exact ⟨vs, r, o, es, h2, h3, hd, h5⟩
theorem turn_items {P : Program} {w : World} {K : PySem.W.Frag} {elts : List Expr} {k : Nat} {pos : Pos} (ob : Obj) (a it : Addr) (kvs : List (Key × V)) (es : Array DictEntry) (ep : Nat) (hd : ob.data = .dict es ep) : Turn P w K (.Tuple elts k pos) (Iti ob a kvs) [it] it
    (fun i h => ∃ ok ov, IsItemIter h it a i kvs.length ep ok ov) where
  mem := by simp
  obj := fun i h st b hb => by
    obtain rfl : b = it := by simpa using hb
    obtain ⟨ok, ov, st⟩ := st
    exact ⟨_, st, fun v z => by have z' : Data.fields _ = Data.cell v := z; cases z'⟩
  keep := fun i h h' st k => by
    obtain ⟨ok, ov, st⟩ := st
    exact ⟨ok, ov, k it (by simp) _ st⟩
  item := by
    intro X hP hw hK hc i pins s σ H E I hf st hg
    subst hP hw hK
    obtain ⟨hi, hH⟩ := hg
    obtain ⟨ok, ov, st⟩ := id st
    obtain ⟨vs, r, dd⟩ := frz_dict I.hok hH hd
    have hl : kvs.length = vs.length := Paired.length r
    obtain ⟨⟨k1, x⟩, hk⟩ : ∃ p, kvs[i]? = some p := ⟨_, List.getElem?_eq_getElem hi⟩
    obtain ⟨⟨k2, u⟩, hu, hke, ru⟩ : ∃ q : Key × Value, vs[i]? = some q ∧ k1 = q.1 ∧ RelV x q.2 := by
      obtain ⟨q, h1, h2⟩ := kv_get r hk
      exact ⟨q, h1, h2.1, h2.2⟩
    have hke : k1 = k2 := hke
    subst hke
    rw [hl] at st
    refine wpAny_pyNext_items_item st dd hu fun key h' kk0 a1 a3 a4 a5 => ?_
    refine ⟨_, rfl, wpAny_letOwnedTupleGo_items (s := { s with heap := h' }) a1 fun h'' b1 b2 => ?_⟩
    have b2' : Heap.SameBut it h' h'' := b2
    have ne : it < s.heap.objs.size := Heap.lt_size st
    have kk : ∀ c o, c ∉ [it] → s.heap.get? c = some o → h''.get? c = some o := fun c o hc e => by
      have hc' : c ≠ it := by simpa using hc
      exact (b2'.2 c hc').trans (a5 c o hc' e)
    have hT : h''.get? s.heap.objs.size = some { cls := .type "tuple", data := .seq #[key, u] } := (b2'.2 _ (Nat.ne_of_gt ne)).trans a3
    have I1 : Inv X pins σ (upd H s.heap.objs.size (.tup [kV k1, x])) { s with heap := h'' } := by
      refine I.turnNew (t' := s.toks) (ch := [it]) hf kk (fun c o ee => ?_) (Nat.le_refl _) (show ObjOk X.prog X.w _ h'' _ (.tup [kV k1, x]) from ⟨by show 2 ≤ sizeLine; decide, [key, u], .cons (rel_key kk0) (.cons ru .nil), ⟨_, hT, rfl, _, rfl⟩⟩)
      by_cases hc : c ∈ [it]
      · obtain rfl : c = it := by simpa using hc
        exact ⟨_, b1⟩
      · exact ⟨_, kk c o hc ee⟩
    refine ⟨.ref s.heap.objs.size, _, I1, rfl, ⟨k1, x, _, hk, rfl, I.hok.fresh (Nat.le_refl _), rfl⟩, ⟨_, _, by rw [hl]; exact b1⟩, fun c hc => ?_⟩
    obtain rfl : c = it := by simpa using hc
    rw [upd_ne (Nat.ne_of_lt ne)]; exact (hf _ (by simp)).1
  done := by
    intro X hP hw hK hc i pins s σ H E I hf st hg
    subst hP hw hK
    obtain ⟨hi, hH⟩ := hg
    obtain ⟨ok, ov, st⟩ := id st
    obtain ⟨vs, r, dd⟩ := frz_dict I.hok hH hd
    have hl : kvs.length = vs.length := Paired.length r
    rw [hl] at st
    refine wpAny_pyNext_items_end (I.ok.hd hc) st dd (List.getElem?_eq_none (by omega)) fun h' kk => ⟨rfl, I.turnL (t' := s.toks) (ch := [it]) hf fun c o hc e => ?_⟩
    exact kk c o (by simpa using hc) e
  self := fun _ _ _ _ _ st h => by
    obtain ⟨ok, ov, st⟩ := st
    exact iter_itemiter st h
def viewO (p d : Addr) : HO := .ext fun h => h.IsItemsView p d
theorem viewO_ok {P : Program} {w : World} {H : Hp} {h : Heap} {p d : Addr} (x : h.IsItemsView p d) : ObjOk P w H h p (viewO p d) := by
  refine ⟨x, ?_, fun h1 h2 y k => ?_⟩
  · obtain ⟨o, e, _⟩ := x; exact ⟨o, e⟩
  · obtain ⟨o, e, r⟩ := y; exact ⟨o, k o e, r⟩
def rItems : V → List V → Hp → VK → Prop := fun x vs H Q => match x, vs with
  | .ref d, [] => ∃ kvs, H d = some (.dK kvs) ∧ ∀ p H', H p = none → Same H H' → H' p = some (viewO p d) → Q (.ref p) H'
  | _, _ => False
theorem ev_rItems {d : Addr} {H : Hp} {Q : VK} : rItems (.ref d) [] H Q = (∃ kvs, H d = some (.dK kvs) ∧ ∀ p H', H p = none → Same H H' → H' p = some (viewO p d) → Q (.ref p) H') := propext Iff.rfl
theorem mt_items {X : Cx} : MtM X "dict.items" rItems := by
  intro pins s σ H x vs v us Q I rx rv h
  match x, vs, h with
  | .ref d, [], h =>
    obtain ⟨kvs, hd, q⟩ := h
    cases rx
    obtain rfl := rv.zero
    obtain ⟨z, hs, xs, rel, dd⟩ := dk_of I.hok hd
    have hT : s.TypeIs (.ref d) "dict" := by obtain ⟨o, _, _, e, ex, _⟩ := dd; exact ⟨o, e, ex.1⟩
    refine call_meetsIn F.slot_dict_items hT F.entry_dict_items (F.args_dict_items_1 _) (meets_dict_items (mixKind X.prog X.w) d hs) ⟨⟨xs, dd⟩, ?_⟩
    have hn := I.hok.fresh (Nat.le_refl s.heap.objs.size)
    refine ⟨.ref s.heap.objs.size, _, I.laid (t' := s.toks) (o := viewO s.heap.objs.size d) (fun b ob q => Heap.get?_push_of_some _ q) (Nat.le_refl _) (viewO_ok ⟨_, Heap.get?_push_size _ rfl, rfl, rfl⟩), rfl, q _ _ hn (same_upd hn) upd_same⟩
def iView (te : TE) : TI := fun σ H R => te σ H fun x H1 => ∃ p a kvs, x = .ref p ∧ H1 p = some (viewO p a) ∧ H1 a = some (.dK kvs) ∧ ∀ ob H2, (∀ b o, b ≠ a → H1 b = some o → H2 b = some o) → H2 a = some (.frz ob (.dK kvs)) → R (Iti ob a kvs) H2
theorem ap_iView {te : TE} {σ : St} {H : Hp} {R : It → Hp → Prop} : iView te σ H R = te σ H fun x H1 => ∃ p a kvs, x = .ref p ∧ H1 p = some (viewO p a) ∧ H1 a = some (.dK kvs) ∧ ∀ ob H2, (∀ b o, b ≠ a → H1 b = some o → H2 b = some o) → H2 a = some (.frz ob (.dK kvs)) → R (Iti ob a kvs) H2 := propext Iff.rfl
theorem pi_view {X : Cx} {elts : List Expr} {k : Nat} {tpos : Pos} {l : Expr} {tl : TE} (hl : PE X l tl) : PI X (.Tuple elts k tpos) l (iView tl) := by
  intro pins s σ H R I h
  refine thn (hl pins s σ H _ I h) fun v s1 ⟨x, H1, I1, r1, q1⟩ => ?_
  obtain ⟨p, a, kvs, rfl, hp, ha, q⟩ := q1
  cases r1
  have hv : s1.heap.IsItemsView p a := (show ObjOk X.prog X.w H1 s1.heap p (viewO p a) from I1.hok p _ hp).1
  obtain ⟨z, hs, vs, rel, ob, es, ep, e1, e2, e3, e4⟩ := dk_of I1.hok ha
  have hl' : kvs.length = vs.length := Paired.length rel
  have dd : s1.heap.DictAt (mixKind X.prog X.w) a vs ep := ⟨ob, es, e1, e2, e3, e4⟩
  refine wpAny_pyIter_items hv dd ?_
  have I2 : Inv X pins σ (upd H1 a (.frz ob (.dK kvs))) s1 := I1.write (x := a) (e := a) (h' := s1.heap) (t' := s1.toks) (o := .frz ob (.dK kvs)) (by rw [ha]; exact True.intro) (.inl rfl) (fun _ _ _ e => e) ⟨ob, e1⟩ ⟨e1, z, hs, vs, rel, ob, es, ep, e1, e2, e3, e4⟩
  have I3 : Inv X pins σ (upd H1 a (.frz ob (.dK kvs))) { s1 with heap := s1.heap.push { cls := .type "dict_itemiterator", data := .fields #[.none, .bool false, .ref a, .int 0 0, .int (vs.length : Int) 0, .int (ep : Int) 0, .none, .none] } } := I2.kept (t' := s1.toks) fun b o e => Heap.get?_push_of_some _ e
  refine ⟨s1.heap.objs.size, [s1.heap.objs.size], _, _, _, rfl, I3, turn_items ob a s1.heap.objs.size kvs es ep e3, ⟨.none, .none, ?_⟩, fun b hb => ?_, q ob _ (fun b o hb e => by rw [upd_ne hb]; exact e) upd_same⟩
  · rw [hl']
    exact Heap.get?_push_size _ rfl
  · obtain rfl : b = s1.heap.objs.size := by simpa using hb
    exact I2.fpOk (Nat.le_refl _) (I2.hok.fresh (Nat.le_refl _))
theorem for_itmO {ob : Obj} {a : Addr} {kvs : List (Key × V)} {g : TG} {tb : TS} {D : Ends} {σ : St} {H : Hp} (Pv : Nat → St → Hp → Prop) (h0 : Pv 0 σ H) (hl : ∀ i σ H, i ≤ kvs.length → Pv i σ H → H a = some (.frz ob (.dK kvs)))
    (hs : ∀ i k x σ H, kvs[i]? = some (k, x) → Pv i σ H → ∀ N : St → Hp → Prop, (∀ σ' H', Pv (i + 1) σ' H' → N σ' H') → ∀ p H', H p = none → Same H H' → H' p = some (.tup [kV k, x]) → g (.ref p) σ H' fun σ2 H2 => tb { D with nx := N, ct := N, bk := D.nx } σ2 H2) (hd : ∀ σ H, Pv kvs.length σ H → D.nx σ H) : ForTurns g tb D (Iti ob a kvs) σ H := by
  refine ⟨fun i m σ H => i + m = kvs.length ∧ Pv i σ H, ⟨kvs.length, by omega, h0⟩, fun i m σ H hw => ?_⟩
  obtain ⟨e, hp⟩ := hw
  have hL := hl i σ H (by omega) hp
  by_cases hm : m = 0
  · subst hm
    have : i = kvs.length := by omega
    subst this
    exact .inl ⟨⟨Nat.le_refl _, hL⟩, hd σ H hp⟩
  · refine .inr ⟨⟨by omega, hL⟩, Pv (i + 1), fun σ' H' n => ⟨m - 1, by omega, by omega, n⟩, fun v H' hy => ?_⟩
    obtain ⟨k, x, p, h1, rfl, h2, rfl⟩ := hy
    exact hs i k x σ H h1 hp _ (fun _ _ h => h) p _ h2 (same_upd h2) upd_same
def rSetdef : V → List V → Hp → VK → Prop := fun x vs H Q => match x, vs with
  | .ref d, [y, v] => ∃ kvs k, H d = some (.dK kvs) ∧ y = kV k ∧ kvs.length < sizeLine ∧ (∀ u, valV kvs k = some u → Q u H) ∧ (valV kvs k = none → Q v (upd H d (.dK (putK kvs k v))))
  | _, _ => False
theorem ev_rSetdef {d : Addr} {y v : V} {H : Hp} {Q : VK} : rSetdef (.ref d) [y, v] H Q = (∃ kvs k, H d = some (.dK kvs) ∧ y = kV k ∧ kvs.length < sizeLine ∧ (∀ u, valV kvs k = some u → Q u H) ∧ (valV kvs k = none → Q v (upd H d (.dK (putK kvs k v))))) := propext Iff.rfl
theorem mt_setdef {X : Cx} : MtM X "dict.setdefault" rSetdef := by
  intro pins s σ H x vs v us Q I rx rv h
  match x, vs, h with
  | .ref d, [y, dv], h =>
    obtain ⟨kvs, k, hd, rfl, hz, q1, q2⟩ := h
    cases rx
    obtain ⟨u1, u2, rfl, ry, rd⟩ := rv.two
    obtain ⟨z, hs, xs, rel, dd⟩ := dk_of I.hok hd
    have hxl : xs.length ≤ sizeLine := by rw [← rel.length]; exact z
    have hT : s.TypeIs (.ref d) "dict" := by obtain ⟨o, _, _, e, ex, _⟩ := dd; exact ⟨o, e, ex.1⟩
    refine call_meetsIn F.slot_dict_setdefault hT F.entry_dict_setdefault (F.args_dict_setdefault_3 _ _ _) (kt_meets_setdefault (mixKind X.prog X.w) d (kV_is ry) hs u2) ⟨xs, dd, hxl, fun w' hw => ?_, fun hn h' dd' hsb => ?_⟩
    · cases hv : valV kvs k with
      | none => have := RelO.none_of (o := valueAt xs k) (by rw [← hv]; exact rel.val k); rw [hw] at this; cases this
      | some u =>
        obtain ⟨w2, hw2, rw2⟩ := RelO.some_of (v := u) (o := valueAt xs k) (by rw [← hv]; exact rel.val k)
        rw [hw] at hw2
        cases hw2
        exact ⟨u, H, I.tok _, rw2, q1 u hv⟩
    · cases hv : valV kvs k with
      | some u =>
        obtain ⟨w2, hw2, rw2⟩ := RelO.some_of (v := u) (o := valueAt xs k) (by rw [← hv]; exact rel.val k)
        rw [hn] at hw2
        cases hw2
      | none =>
        have hl : (putK kvs k dv).length ≤ sizeLine := by have := length_putK kvs k dv; omega
        have he : ∃ q, h'.get? d = some q := let ⟨q, _, _, hq, _⟩ := dd'; ⟨q, hq⟩
        exact ⟨dv, _, d_write I (by rw [hd]; exact True.intro) hsb he (dk_new hl hs (rel.put k rd) dd'), rd, q2 hv⟩
section
variable {X : Cx}
def tDispX (trs : List (TE × TE)) : TE := fun σ H Q => ∀ p H1, H p = none → Same H H1 → H1 p = some (.dK []) → tPairs trs σ H1 fun ps H2 => H2 p = some (.dK []) ∧ ∃ kvs : List (Key × V), ps = kvs.map (fun kv => (kV kv.1, kv.2)) ∧ kvs.length ≤ 15 ∧ ∀ H3, (∀ b o, b ≠ p → H2 b = some o → H3 b = some o) → H3 p = some (.dK (mergeK [] kvs)) → Q (.ref p) H3
theorem ap_dispX {trs : List (TE × TE)} {σ : St} {H : Hp} {Q : VK} : tDispX trs σ H Q = (∀ p H1, H p = none → Same H H1 → H1 p = some (.dK []) → tPairs trs σ H1 fun ps H2 => H2 p = some (.dK []) ∧ ∃ kvs : List (Key × V), ps = kvs.map (fun kv => (kV kv.1, kv.2)) ∧ kvs.length ≤ 15 ∧ ∀ H3, (∀ b o, b ≠ p → H2 b = some o → H3 b = some o) → H3 p = some (.dK (mergeK [] kvs)) → Q (.ref p) H3) := propext Iff.rfl
theorem ap_prs0 {σ : St} {H : Hp} {Q : List (V × V) → Hp → Prop} : tPairs [] σ H Q = Q [] H := propext Iff.rfl
theorem ap_prs {tk tv : TE} {r : List (TE × TE)} {σ : St} {H : Hp} {Q : List (V × V) → Hp → Prop} : tPairs ((tk, tv) :: r) σ H Q = tk σ H fun x H1 => tv σ H1 fun y H2 => tPairs r σ H2 fun ps H3 => Q ((x, y) :: ps) H3 := propext Iff.rfl
theorem pe_dispX {pos : Pos} {keys : List (Option Expr)} {values : List Expr} {trs : List (TE × TE)} (h : PPs X pos keys values trs) (hall : keys.all (·.isSome) = true) (hl : keys.length = values.length) (h0 : keys ≠ [])
    (h15 : keys.length ≤ 15) : PE X (.Dict keys values pos) (tDispX trs) := by
  intro pins s σ H Q I q
  have hn := I.hok.fresh (Nat.le_refl s.heap.objs.size)
  have I1 := I.laid (a := s.heap.objs.size) (o := .dK []) (h' := s.heap.push { cls := .type "dict", data := .dict #[] }) (t' := s.toks) (fun _ _ q => Heap.get?_push_of_some _ q) (Nat.le_refl _) (dk_empty s.heap I.big)
  refine wpAny_Dict_walk (knd := mixKind X.prog X.w) hall hl h0 h15 (thn (h pins _ σ _ _ I1 (q _ _ hn (same_upd hn) upd_same)) fun ws s2 ⟨ps, H2, I2, rel, e, kvs, ep, lk, q2⟩ => ?_)
  subst ep
  obtain ⟨rs, c, rk⟩ := carries_of (P := X.prog) (w := X.w) rel
  obtain ⟨z, hd, vs0, r0, dd⟩ := dk_of I2.hok e
  cases r0
  refine ⟨rs, c, dd, fun h' dd' hs => ⟨.ref s.heap.objs.size, upd H2 s.heap.objs.size (.dK (mergeK [] kvs)), ?_, rfl, q2 _ (fun b o hb e => by rw [upd_ne hb]; exact e) upd_same⟩⟩
  have hz : (mergeK [] kvs).length ≤ sizeLine := by
    have h1 := length_mergeK kvs []
    rw [List.length_nil] at h1
    rw [sizeLine_eq]; omega
  have he : ∃ q, h'.get? s.heap.objs.size = some q := let ⟨q, _, _, hq, _⟩ := dd'; ⟨q, hq⟩
  exact d_write I2 (by rw [e]; exact True.intro) hs he (dk_new hz hd (rk.merge .nil) dd')
theorem ap_dget {td ty : TE} {σ : St} {H : Hp} {Q : VK} : tDGet td ty σ H Q = td σ H fun x H1 => ty σ H1 fun y H2 => ∃ a v, x = .ref a ∧ DGet H2 a y (some v) ∧ Q v H2 := propext Iff.rfl
theorem ap_dget1 {td ty : TE} {σ : St} {H : Hp} {Q : VK} : tDGet1 td ty σ H Q = td σ H fun x H1 => ∃ a, x = .ref a ∧ IsD H1 a ∧ ty σ H1 fun y H2 => ∃ o, DGet H2 a y o ∧ Q (o.getD .non) H2 := propext Iff.rfl
theorem pe_dgetG {o i : Expr} {td ty : TE} {pos : Pos} (hu : X.A.units + 1 < cLine) (ho : PE X o td) (hi : PE X i ty) (hs : NoSl i := by exact fun _ _ => rfl) : PE X (.Subscript o i pos) (tDGet td ty) := pe_dget hu ho hi hs
theorem pe_dget1G {o e : Expr} {td ty : TE} {apos cpos : Pos} (hu : X.A.units + 1 < cLine) (ho : PE X o td) (he : PE X e ty) (hbase : attributeBase o "get" X.env (eval o X.env) = eval o X.env := by kernel_rfl) (hs : noStars [e] = true := by kernel_rfl)
    (hline : (apos.endLine == cpos.line) = true := by kernel_rfl) (htr : backTo cpos (starEach [e] X.env) = [(false, eval e X.env)] := by rfl) : PE X (.Call (.Attribute o "get" apos) [e] [] cpos) (tDGet1 td ty) := by
  refine pe_dget1 hu ho he ⟨hbase, ?_, hline, htr⟩
  rw [backTo_all hs]
  rfl
theorem pe_bm0G {K : PySem.W.Frag} {o : Expr} {to : TE} {name : Str} {apos cpos : Pos} {T id : String} {r : V → List V → Hp → VK → Prop} (hK : X.K = K) (pa : PlainAttrs T) (slot : Slot T name id) (hty : typeOf (.builtin id) = pure (.type "method_descriptor"))
    (hm : MtR X id r) (ho : PE X o to) (hbase : attributeBase o name X.env (eval o X.env) = eval o X.env := by kernel_rfl) (hline : (apos.endLine == cpos.line) = true := by kernel_rfl) : PE X (.Call (.Attribute o name apos) [] [] cpos) (tBM0 K T r to) :=
  hK ▸ pe_bm0 pa slot hty hm ho hbase hline
end
def rFindS : V → List V → Hp → VK → Prop := fun x vs H Q => match x, vs with
  | .str z, [.str y] => Q (.int (Txt.find z y)) H
  | _, _ => False
theorem ev_rFindS {z y : Str} {H : Hp} {Q : VK} : rFindS (.str z) [.str y] H Q = Q (.int (Txt.find z y)) H := propext Iff.rfl
theorem mt_findS {X : Cx} : MtM X "str.find" rFindS := by
  intro pins s σ H x vs v us Q I rx rv h
  match x, vs, h with
  | .str z, [.str y], h =>
    obtain ⟨t, rfl⟩ := rx
    obtain ⟨u, rfl, ru⟩ := rv.one
    obtain ⟨t2, rfl⟩ := ru
    refine SC.find ?_
    exact ⟨.int _, H, I.tok _, ⟨_, rfl⟩, h⟩
end L2

namespace Mk
theorem bez (a b : Nat) : ∃ x y : Int, (a : Int) * x + (b : Int) * y = ((Nat.gcd a b : Nat) : Int) := by
  induction a, b using Nat.gcd.induction with
  | H0 n => exact ⟨0, 1, by simp⟩
  | H1 m n hm ih =>
    obtain ⟨x, y, h⟩ := ih
    refine ⟨y - ((n / m : Nat) : Int) * x, x, ?_⟩
    have e : ((n % m : Nat) : Int) = (n : Int) - (m : Int) * ((n / m : Nat) : Int) := by
      have := Nat.div_add_mod n m
      have h2 : ((m * (n / m) + n % m : Nat) : Int) = (n : Int) := by rw [this]
      push_cast at h2 ⊢
      omega
    rw [Nat.gcd_rec, ← h, e]
    grind
def gAll (g : Int) (ws : List Int) : Int := ws.foldl (fun g w => ((Int.gcd g w : Nat) : Int)) g
theorem gAll_bez : ∀ (ws : List Int) (g : Int), 0 ≤ g → (∀ w ∈ ws, 0 ≤ w) → ∃ (cs : List Int) (c : Int), cs.length = ws.length ∧ dot ws cs + c * g = gAll g ws
  | [], g, _, _ => ⟨[], 1, rfl, by rw [dot_nil, Int.one_mul, Int.zero_add]; rfl⟩
  | w :: ws, g, hg, hw => by
    have hw0 := hw w List.mem_cons_self
    obtain ⟨cs, c, h1, h2⟩ := gAll_bez ws ((Int.gcd g w : Nat) : Int) (by omega) fun x hx => hw x (List.mem_cons_of_mem _ hx)
    obtain ⟨x, y, h3⟩ := bez g.natAbs w.natAbs
    rw [Int.natAbs_of_nonneg hg, Int.natAbs_of_nonneg hw0] at h3
    have h4 : ((Int.gcd g w : Nat) : Int) = g * x + w * y := h3.symm
    refine ⟨(c * y) :: cs, c * x, by rw [List.length_cons, List.length_cons, h1], ?_⟩
    show w * (c * y) + dot ws cs + c * x * g = gAll ((Int.gcd g w : Nat) : Int) ws
    rw [← h2, h4]
    grind
theorem gAll_dvd : ∀ (ws : List Int) (g : Int), gAll g ws ∣ g ∧ ∀ w ∈ ws, gAll g ws ∣ w
  | [], g => ⟨Int.dvd_refl g, fun _ h => nomatch h⟩
  | w :: ws, g => by
    obtain ⟨h1, h2⟩ := gAll_dvd ws ((Int.gcd g w : Nat) : Int)
    refine ⟨Int.dvd_trans h1 (Int.gcd_dvd_left (a := g) (b := w)), fun x hx => ?_⟩
    rcases List.mem_cons.mp hx with rfl | hx
    · exact Int.dvd_trans h1 (Int.gcd_dvd_right (a := g) (b := x))
    · exact h2 x hx
theorem dot_dvd : ∀ (ws ps : List Int) (d : Int), (∀ w ∈ ws, d ∣ w) → d ∣ dot ws ps
  | [], ps, d, _ => by rw [dot_nil]; exact Int.dvd_zero d
  | w :: ws, [], d, _ => by unfold dot; exact Int.dvd_zero d
  | w :: ws, p :: ps, d, h => by
    show d ∣ w * p + dot ws ps
    exact Int.dvd_add (Int.dvd_mul_of_dvd_left (h w List.mem_cons_self)) (dot_dvd ws ps d fun x hx => h x (List.mem_cons_of_mem _ hx))
theorem dot_mod (m k : Int) : ∀ (ws cs : List Int), m ∣ dot ws (cs.map fun c => (c * k) % m) - k * dot ws cs
  | [], cs => by rw [dot_nil, dot_nil]; simp
  | w :: ws, [] => by show m ∣ dot (w :: ws) [] - k * dot (w :: ws) []; unfold dot; simp
  | w :: ws, c :: cs => by
    obtain ⟨z, hz⟩ := dot_mod m k ws cs
    show m ∣ w * ((c * k) % m) + dot ws (cs.map fun c => (c * k) % m) - k * (w * c + dot ws cs)
    have e := Int.mul_ediv_add_emod (c * k) m
    refine ⟨z - w * (c * k / m), ?_⟩
    grind
theorem good_exists {m r : Int} {ws : List Int} (hm : 0 < m) (hw : ∀ w ∈ ws, 0 ≤ w) (h : r % gAll m ws = 0) : ∃ ps : List Int, ps.length = ws.length ∧ (∀ x ∈ ps, 0 ≤ x ∧ x < m) ∧ (dot ws ps - r) % m = 0 := by
  obtain ⟨cs, c, h1, h2⟩ := gAll_bez ws m (Int.le_of_lt hm) hw
  obtain ⟨k, hk⟩ := Int.dvd_of_emod_eq_zero h
  refine ⟨cs.map fun x => (x * k) % m, by rw [List.length_map, h1], fun x hx => ?_, ?_⟩
  · obtain ⟨y, _, rfl⟩ := List.mem_map.mp hx
    exact ⟨Int.emod_nonneg _ (by omega), Int.emod_lt_of_pos _ hm⟩
  · obtain ⟨z, hz⟩ := dot_mod m k ws cs
    refine Int.emod_eq_zero_of_dvd ⟨z - k * c, ?_⟩
    grind
theorem good_gAll {m r : Int} {ws ps : List Int} (h : (dot ws ps - r) % m = 0) : r % gAll m ws = 0 := by
  obtain ⟨h1, h2⟩ := gAll_dvd ws m
  have h3 := Int.dvd_trans h1 (Int.dvd_of_emod_eq_zero h)
  have h4 := Int.dvd_sub (dot_dvd ws ps _ h2) h3
  rw [show dot ws ps - (dot ws ps - r) = r by omega] at h4
  exact Int.emod_eq_zero_of_dvd h4
theorem fill_one {m r w : Int} {ws ps : List Int} {k : Nat} (hm : 0 < m) (h26 : m ≤ 26) (hw : ws[k]? = some w) (hwb : 0 ≤ w ∧ w < m) (hc : cop m w = true) {p : Int} (hp : ps[k]? = some p) : ∃ x, 0 ≤ x ∧ x < m ∧ (dot ws (ps.set k x) - r) % m = 0 := by
  obtain ⟨v, t, hv⟩ := inv_of hm h26 hwb hc
  have hq := Int.mul_ediv_add_emod ((r - dot ws ps + w * p) * v) m
  refine ⟨((r - dot ws ps + w * p) * v) % m, Int.emod_nonneg _ (by omega), Int.emod_lt_of_pos _ hm, ?_⟩
  rw [dot_set ws ps k w p _ hw hp]
  generalize dot ws ps = d at hq ⊢
  generalize ((r - d + w * p) * v) % m = x at hq ⊢
  generalize ((r - d + w * p) * v) / m = q at hq
  refine Int.emod_eq_zero_of_dvd ⟨t * (r - d + w * p) - w * q, ?_⟩
  grind
theorem div_gcd {x m : Int} (hm : 0 < m) : ∃ g st u : Int, g = ((Int.gcd x m : Nat) : Int) ∧ 0 < g ∧ m = g * st ∧ x = g * u ∧ m / g = st ∧ 0 < st := by
  have hgd : ((Int.gcd x m : Nat) : Int) ∣ m := Int.gcd_dvd_right (a := x) (b := m)
  have hgx : ((Int.gcd x m : Nat) : Int) ∣ x := Int.gcd_dvd_left (a := x) (b := m)
  have hg0 : 0 < ((Int.gcd x m : Nat) : Int) := by
    rcases Nat.eq_zero_or_pos (Int.gcd x m) with h | h
    · rw [h] at hgd
      have := Int.zero_dvd.mp hgd
      omega
    · omega
  obtain ⟨st, hst⟩ := hgd
  obtain ⟨u, hu⟩ := hgx
  refine ⟨_, st, u, rfl, hg0, hst, hu, Int.ediv_eq_of_eq_mul_right (by omega) hst, ?_⟩
  rcases Int.lt_or_le 0 st with h | h
  · exact h
  · have := Int.mul_le_mul_of_nonneg_left h (Int.le_of_lt hg0)
    omega
theorem exch_good {m r w p : Int} {ws ps : List Int} {a : Nat} (hm : 0 < m) (hw : ws[a]? = some w) (hp : ps[a]? = some p) (hpb : 0 ≤ p ∧ p < m) (hd : 1 < Int.gcd w m) (hg : (dot ws ps - r) % m = 0) :
    (0 ≤ (p + m / ((Int.gcd w m : Nat) : Int)) % m ∧ (p + m / ((Int.gcd w m : Nat) : Int)) % m < m) ∧ (p + m / ((Int.gcd w m : Nat) : Int)) % m ≠ p ∧ (dot ws (ps.set a ((p + m / ((Int.gcd w m : Nat) : Int)) % m)) - r) % m = 0 := by
  obtain ⟨g, st, u, rfl, h1, h2, h3, h4, h5⟩ := div_gcd (x := w) hm
  rw [h4]
  have hlt : st < m := by
    have : 2 * st ≤ ((Int.gcd w m : Nat) : Int) * st := Int.mul_le_mul_of_nonneg_right (by omega) (by omega)
    omega
  have e := Int.mul_ediv_add_emod (p + st) m
  refine ⟨⟨Int.emod_nonneg _ (by omega), Int.emod_lt_of_pos _ hm⟩, ?_, ?_⟩
  · by_cases h : p + st < m
    · rw [Int.emod_eq_of_lt (by omega) h]; omega
    · rw [← Int.sub_emod_right, Int.emod_eq_of_lt (by omega) (by omega)]; omega
  · rw [dot_set ws ps a w p _ hw hp]
    obtain ⟨z, hz⟩ := Int.dvd_of_emod_eq_zero hg
    generalize dot ws ps = d at hz ⊢
    generalize (p + st) % m = x at e ⊢
    generalize (p + st) / m = q at e
    generalize ((Int.gcd w m : Nat) : Int) = g at h1 h2 h3 h4
    refine Int.emod_eq_zero_of_dvd ⟨z + u - w * q, ?_⟩
    have e1 : w * st = m * u := by rw [h2, h3]; grind
    have e2 : x - p = st - m * q := by omega
    rw [e2, Int.mul_sub, e1]
    grind
theorem swap_good2 {m r w v lo hi c : Int} {ws ps : List Int} {a : Nat} (hm : 0 < m) (hw : ws[a]? = some w) (hv : ws[a + 1]? = some v) (hp : ps[a]? = some lo) (hq : ps[a + 1]? = some hi) (h : hi - lo = c * (m / ((Int.gcd (w - v) m : Nat) : Int))) (hg : (dot ws ps - r) % m = 0) :
    (dot ws ((ps.set a hi).set (a + 1) lo) - r) % m = 0 := by
  obtain ⟨g, st, u, rfl, h1, h2, h3, h4, h5⟩ := div_gcd (x := w - v) hm
  rw [h4] at h
  rw [dot_set ws (ps.set a hi) (a + 1) v hi lo hv (by rw [List.getElem?_set_ne (by omega)]; exact hq), dot_set ws ps a w lo hi hw hp]
  obtain ⟨z, hz⟩ := Int.dvd_of_emod_eq_zero hg
  generalize dot ws ps = d at hz ⊢
  generalize ((Int.gcd (w - v) m : Nat) : Int) = g at h1 h2 h3 h4
  refine Int.emod_eq_zero_of_dvd ⟨z + u * c, ?_⟩
  have e1 : (w - v) * (hi - lo) = m * (u * c) := by rw [h, h3]; conv => rhs; rw [h2]
                                                    grind
  have e2 : d + w * (hi - lo) + v * (lo - hi) - r = (d - r) + (w - v) * (hi - lo) := by grind
  rw [e2, e1, hz]
  grind
theorem fix_exists {m r lo hi : Int} {ws : List Int} {a : Nat} (hm : 0 < m) (h26 : m ≤ 26) (h3 : 3 ≤ ws.length) (hb : ∀ w ∈ ws, 0 ≤ w ∧ w < m) (hc : ∀ w ∈ ws, cop m w = true) (ha : a + 1 < ws.length) (hlo : 0 ≤ lo ∧ lo < m) (hhi : 0 ≤ hi ∧ hi < m) :
    ∃ ps : List Int, ps.length = ws.length ∧ (∀ (i : Nat) x, ps[i]? = some x → 0 ≤ x ∧ x < m) ∧ ps[a]? = some lo ∧ ps[a + 1]? = some hi ∧ (dot ws ps - r) % m = 0 := by
  obtain ⟨k, hk, hka, hkb⟩ : ∃ k, k < ws.length ∧ k ≠ a ∧ k ≠ a + 1 := by
    by_cases h : a = 0
    · exact ⟨2, by omega, by omega, by omega⟩
    · exact ⟨0, by omega, by omega, by omega⟩
  have hl : (((List.replicate ws.length (0 : Int)).set a lo).set (a + 1) hi).length = ws.length := by rw [List.length_set, List.length_set, List.length_replicate]
  have g1 : (((List.replicate ws.length (0 : Int)).set a lo).set (a + 1) hi)[a]? = some lo := by
    rw [List.getElem?_set_ne (by omega), List.getElem?_set_self (by rw [List.length_replicate]; omega)]
  have g2 : (((List.replicate ws.length (0 : Int)).set a lo).set (a + 1) hi)[a + 1]? = some hi := by
    rw [List.getElem?_set_self (by rw [List.length_set, List.length_replicate]; omega)]
  have g3 : ∀ x ∈ ((List.replicate ws.length (0 : Int)).set a lo).set (a + 1) hi, 0 ≤ x ∧ x < m := set_mem2 (set_mem2 (fun p hp => by rw [List.eq_of_mem_replicate hp]; omega) hlo) hhi
  generalize ((List.replicate ws.length (0 : Int)).set a lo).set (a + 1) hi = ps0 at hl g1 g2 g3
  have hwk : ws[k]? = some ws[k] := List.getElem?_eq_getElem hk
  have hpk : ps0[k]? = some (ps0[k]'(by omega)) := List.getElem?_eq_getElem (by omega)
  obtain ⟨x, x0, x1, hx⟩ := fill_one (r := r) hm h26 hwk (hb _ (List.getElem_mem hk)) (hc _ (List.getElem_mem hk)) hpk
  refine ⟨ps0.set k x, by rw [List.length_set, hl], fun i y hi' => set_mem2 g3 ⟨x0, x1⟩ y (List.mem_of_getElem? hi'), ?_, ?_, hx⟩
  · rw [List.getElem?_set_ne hka]; exact g1
  · rw [List.getElem?_set_ne hkb]; exact g2
end Mk

namespace Kb
open PySem L2
seal L2.PE L2.PA L2.PS L2.PSs L2.PT L2.PW L2.PG L2.PGs L2.PI L2.PO L2.PSet L2.PIf
def top (i : Nat) : Stmt := PySem.Challenge.pw_cablehouse_k03_pairs_a_fault_apart.main.body.getD i (.Pass ⟨0, 0, 0, 0⟩)
abbrev s_common_divisor : Stmt := top 1
abbrev s_spelled : Stmt := top 3
abbrev s_good_places : Stmt := top 4
abbrev s_pair_by_exchange : Stmt := top 5
abbrev s_pair_by_swap : Stmt := top 6
abbrev s_unsafe_pair : Stmt := top 7
abbrev s_law_cell_at : Stmt := top 9
abbrev s_law_mixed : Stmt := top 10
abbrev s_law_alphabet : Stmt := top 11
abbrev s_law_apart : Stmt := top 12
abbrev s_law_safe : Stmt := top 13
abbrev s_law_weights : Stmt := top 14
abbrev s_law_digits : Stmt := top 15
abbrev s_law_some_weights : Stmt := top 16
abbrev s_law_sum : Stmt := top 17
abbrev s_law_common : Stmt := top 18
abbrev s_law_is_good : Stmt := top 19
abbrev s_law_one_fault : Stmt := top 20
abbrev s_law : Stmt := top 21
/-- the built-in names that the text leaves as they are -/
structure Bl (mg : Str → Option Value) : Prop where
  abs : mg "abs" = none
  enumerate : mg "enumerate" = none
  list : mg "list" = none
  range : mg "range" = none
  len : mg "len" = none
  isinstance : mg "isinstance" = none
  str : mg "str" = none
  min : mg "min" = none
  max : mg "max" = none
  tuple : mg "tuple" = none
/-- where the classes stand -/
structure Ads where
  none : Unit := ()
/-- what of the text the classes have -/
structure AdF (K : PySem.W.Frag) (mg : Str → Option Value) (Ad : Ads) : Prop where
section
variable {P : Program} {w : World} {K : PySem.W.Frag} {mg : Str → Option Value} {base : Heap} {Ad : Ads}
local macro_rules | `(tactic| and_intros) => `(tactic| try simp only [ap_fld, rFldX, ap_sfld, rSetX, ap_meth, rMethX, ap_make, ap_raise, ap_try, ap_unp, ap_gcons, ap_gnil, rIsiG, Ends.un, putF, ap_asg, ap_gname, ap_var, ap_c, ap_op, ap_un, ap_cb, ap_cons, ap_nil, ap_call, ap_ret, ap_retN, ap_if, ap_next, ap_drop, ap_test, ap_b, ap_not, ap_and, ap_or, ap_andV, ap_orV, ap_notV, ap_ifE, ap_lst, ap_tup, ap_dnew, nw, ap_lc, ap_sl, ap_noPart, ap_part, ap_iList, ap_iSeq, ap_iRng1, ap_iRng2, ap_iZip, ap_for, ap_par, ap_gsub, ap_bm, ap_bm0, ap_chain, ex_bl, ex_int, ex_ref, ex_int1, ex_int2, ex_ref2, ex_two, ex_some, ap_rev, ap_disp1, ap_iEnum, ap_iRng3, ap_iView, ap_dispX, ap_prs0, ap_prs, ap_dget, ap_dget1, ev_rItems, ev_rSetdef, ev_rFindS, rIsX, isV, tagV, tagO, Tg.sub, Tg.name, rU, rInX, Option.join_some, Int.toNat_natCast, List.getElem?_cons_zero, List.getElem?_cons_succ, List.set_cons_zero, List.set_cons_succ, start_eq, List.map_cons, List.map_nil, List.cons_append, List.nil_append, List.length_cons, List.length_nil, List.replicate_succ, List.replicate_zero, Nat.reduceAdd, Nat.reduceSub, Nat.zero_add, bne_self_eq_false, Bool.true_bne, Bool.false_bne, Bool.not_true, Bool.not_false, if_true, if_false, Bool.false_eq_true, Bool.true_eq_false, reduceIte, ev_rAddX_1, ev_rAddX_2, ev_rAddX_3, ev_rSubX_1, ev_rMulX_1, ev_rMulX_2, ev_rFdivX_1, ev_rModX_1, ev_rPowX_1, ev_rCmpX_1, ev_rGeL_1, ev_rGeL_2, ev_rEqX_1, ev_rEqX_2, ev_rEqX_3, ev_rEqX_4, ev_rNeX_1, ev_rNeX_2, ev_rNeX_3, ev_rNeX_4, ev_rIxX_1, ev_rIxX_2, ev_rLenX_1, ev_rLenX_2, ev_rAbsX_1, ev_rMinX_1, ev_rMaxX_1, ev_rListX_1, ev_rRngX_1, ev_rIsiC_1, ev_rSlX_1, ev_rSlY_1, ev_rSlY_2, ev_rInsert_1, ev_rIndexS_1, ev_rJoinS_1, ev_rSplit_1, ev_rMulS_1, ev_rSetS_1, ev_rLenT_1, ev_iSeqV_1, ev_iSeqV_2])
local macro_rules | `(tactic| ac_nf) => `(tactic| try simp only [ap_seq, ap_fld, rFldX, ap_sfld, rSetX, ap_meth, rMethX, ap_make, ap_raise, ap_try, ap_unp, ap_gcons, ap_gnil, rIsiG, Ends.un, putF, ap_asg, ap_gname, ap_var, ap_c, ap_op, ap_un, ap_cb, ap_cons, ap_nil, ap_call, ap_ret, ap_retN, ap_if, ap_next, ap_drop, ap_test, ap_b, ap_not, ap_and, ap_or, ap_andV, ap_orV, ap_notV, ap_ifE, ap_lst, ap_tup, ap_dnew, nw, ap_lc, ap_sl, ap_noPart, ap_part, ap_iList, ap_iSeq, ap_iRng1, ap_iRng2, ap_iZip, ap_for, ap_par, ap_gsub, ap_bm, ap_bm0, ap_chain, ex_bl, ex_int, ex_ref, ex_int1, ex_int2, ex_ref2, ex_two, ex_some, ap_rev, ap_disp1, ap_iEnum, ap_iRng3, ap_iView, ap_dispX, ap_prs0, ap_prs, ap_dget, ap_dget1, ev_rItems, ev_rSetdef, ev_rFindS, rIsX, isV, tagV, tagO, Tg.sub, Tg.name, rU, rInX, Option.join_some, Int.toNat_natCast, List.getElem?_cons_zero, List.getElem?_cons_succ, List.set_cons_zero, List.set_cons_succ, start_eq, List.map_cons, List.map_nil, List.cons_append, List.nil_append, List.length_cons, List.length_nil, List.replicate_succ, List.replicate_zero, Nat.reduceAdd, Nat.reduceSub, Nat.zero_add, bne_self_eq_false, Bool.true_bne, Bool.false_bne, Bool.not_true, Bool.not_false, if_true, if_false, Bool.false_eq_true, Bool.true_eq_false, reduceIte, ev_rAddX_1, ev_rAddX_2, ev_rAddX_3, ev_rSubX_1, ev_rMulX_1, ev_rMulX_2, ev_rFdivX_1, ev_rModX_1, ev_rPowX_1, ev_rCmpX_1, ev_rGeL_1, ev_rGeL_2, ev_rEqX_1, ev_rEqX_2, ev_rEqX_3, ev_rEqX_4, ev_rNeX_1, ev_rNeX_2, ev_rNeX_3, ev_rNeX_4, ev_rIxX_1, ev_rIxX_2, ev_rLenX_1, ev_rLenX_2, ev_rAbsX_1, ev_rMinX_1, ev_rMaxX_1, ev_rListX_1, ev_rRngX_1, ev_rIsiC_1, ev_rSlX_1, ev_rSlY_1, ev_rSlY_2, ev_rInsert_1, ev_rIndexS_1, ev_rJoinS_1, ev_rSplit_1, ev_rMulS_1, ev_rSetS_1, ev_rLenT_1, ev_iSeqV_1, ev_iSeqV_2])
local macro_rules | `(tactic| bv_omega) => `(tactic| try simp only [ex_bl, ex_int, ex_ref, Bool.not_false, Bool.not_true, if_true, if_false, Bool.false_eq_true, Bool.true_eq_false, true_and, and_true])
/-- places of a word's beginning: so many, in their bounds, as fixed -/
def PL (m : Int) (fx : Nat → Option Int) (n : Nat) (ps : List Int) : Prop := ps.length = n ∧ ∀ i x, ps[i]? = some x → (0 ≤ x ∧ x < m) ∧ ∀ v, fx i = some v → x = v
/-- what the dict of beginnings holds -/
def Beg (H : Hp) (m : Int) (fx : Nat → Option Int) (ws : List Int) (n : Nat) (kvs : List (Key × V)) : Prop :=
  (kvs.map (·.1)).Nodup ∧ ∀ p ∈ kvs, ∃ (r : Int) (q : Addr) (ps : List Int), p = (.inl r, .ref q) ∧ (0 ≤ r ∧ r < m) ∧ H q = some (.lst (ps.map V.int)) ∧ PL m fx n ps ∧ Mk.dot (ws.take n) ps % m = r
def Cmp (m : Int) (fx : Nat → Option Int) (ws : List Int) (n : Nat) (kvs : List (Key × V)) : Prop := ∀ ps, PL m fx n ps → (valV kvs (.inl (Mk.dot (ws.take n) ps % m))).isSome = true
theorem Beg.keep {H H' : Hp} {m : Int} {fx : Nat → Option Int} {ws : List Int} {n : Nat} {kvs : List (Key × V)} (h : Beg H m fx ws n kvs) (k : ∀ q xs, H q = some (.lst xs) → H' q = some (.lst xs)) : Beg H' m fx ws n kvs :=
  ⟨h.1, fun p hp => by obtain ⟨r, q, ps, e1, e2, e3, e4⟩ := h.2 p hp; exact ⟨r, q, ps, e1, e2, k _ _ e3, e4⟩⟩
theorem Beg.put {H : Hp} {m : Int} {fx : Nat → Option Int} {ws : List Int} {n : Nat} {kvs : List (Key × V)} {r : Int} {q : Addr} {ps : List Int} (h : Beg H m fx ws n kvs) (hn : valV kvs (.inl r) = none) (h1 : 0 ≤ r ∧ r < m) (h2 : H q = some (.lst (ps.map V.int))) (h3 : PL m fx n ps) (h4 : Mk.dot (ws.take n) ps % m = r) :
    Beg H m fx ws n (putK kvs (.inl r) (.ref q)) := by
  refine ⟨nd_putK _ h.1 hn, fun p hp => ?_⟩
  rw [putK_new _ hn] at hp
  rcases List.mem_append.mp hp with hp | hp
  · exact h.2 p hp
  · rw [List.mem_singleton.mp hp]
    exact ⟨r, q, ps, rfl, h1, h2, h3, h4⟩
theorem nodup_le : ∀ (m : Nat) (l : List Int), l.Nodup → (∀ x ∈ l, 0 ≤ x ∧ x < (m : Int)) → l.length ≤ m
  | 0, l, _, h => by
    cases l with
    | nil => exact Nat.le_refl _
    | cons a r => have := h a List.mem_cons_self; omega
  | m + 1, l, hn, h => by
    have ih := nodup_le m (l.erase (m : Int)) (hn.erase _) fun x hx => by
      have := (hn.mem_erase_iff.mp hx)
      have h2 := h x this.2
      have : x ≠ (m : Int) := this.1
      omega
    rw [List.length_erase] at ih
    split at ih <;> omega
theorem Beg.len {H : Hp} {m : Int} {fx : Nat → Option Int} {ws : List Int} {n : Nat} {kvs : List (Key × V)} (h : Beg H m fx ws n kvs) (h26 : m ≤ 26) : kvs.length ≤ 26 := by
  have key : ∃ l : List Int, kvs.map (·.1) = l.map Sum.inl ∧ ∀ x ∈ l, 0 ≤ x ∧ x < m := by
    have h2 := h.2
    clear h
    induction kvs with
    | nil => exact ⟨[], rfl, fun _ h => nomatch h⟩
    | cons p kvs ih =>
      obtain ⟨l, e, hl⟩ := ih fun q hq => h2 q (List.mem_cons_of_mem _ hq)
      obtain ⟨r, q, ps, rfl, hr, _⟩ := h2 p List.mem_cons_self
      refine ⟨r :: l, by rw [List.map_cons, List.map_cons, e], fun x hx => ?_⟩
      rcases List.mem_cons.mp hx with rfl | hx
      · exact hr
      · exact hl x hx
  obtain ⟨l, e, hl⟩ := key
  have hn := h.1
  rw [e] at hn
  have hnl : l.Nodup := (List.pairwise_map.mp hn).imp fun h e => h (by rw [e])
  have := nodup_le 26 l hnl fun x hx => by have := hl x hx; omega
  have e2 := congrArg List.length e
  rw [List.length_map, List.length_map] at e2
  omega
theorem val_mem {kvs : List (Key × V)} {k : Key} (h : (valV kvs k).isSome = true) : ∃ (i : Nat) (v : V), kvs[i]? = some (k, v) := by
  induction kvs with
  | nil => cases h
  | cons p kvs ih =>
    by_cases e : p.1 = k
    · exact ⟨0, p.2, by rw [← e]; rfl⟩
    · rw [valV_neg e] at h
      obtain ⟨i, v, hi⟩ := ih h
      exact ⟨i + 1, v, hi⟩
theorem ixN_nat {n i : Nat} (h : i < n) : ixN n (i : Int) = some i := by
  unfold ixN
  rw [if_pos (by omega), if_pos (by omega), Int.toNat_natCast]
theorem valV_of_mem {kvs : List (Key × V)} {k : Key} {v : V} (hn : (kvs.map (·.1)).Nodup) (h : (k, v) ∈ kvs) : valV kvs k = some v := by
  induction kvs with
  | nil => cases h
  | cons p kvs ih =>
    rw [List.map_cons] at hn
    have hn := List.nodup_cons.mp hn
    rcases List.mem_cons.mp h with rfl | h
    · exact valV_pos rfl
    · have : ¬ p.1 = k := fun e => hn.1 (by rw [e]; exact List.mem_map.mpr ⟨(k, v), h, rfl⟩)
      rw [valV_neg this]
      exact ih hn.2 h
theorem PL.snoc {m : Int} {fx : Nat → Option Int} {n : Nat} {ps : List Int} {x : Int} (h : PL m fx n ps) (h1 : 0 ≤ x ∧ x < m) (h2 : ∀ v, fx n = some v → x = v) : PL m fx (n + 1) (ps ++ [x]) := by
  refine ⟨by rw [List.length_append, h.1]; rfl, fun i y hi => ?_⟩
  by_cases hlt : i < ps.length
  · rw [List.getElem?_append_left hlt] at hi
    exact h.2 i y hi
  · rw [List.getElem?_append_right (by omega)] at hi
    have e : i - ps.length = 0 := by
      have := (List.getElem?_eq_some_iff.mp hi).1
      simp at this
      omega
    rw [e] at hi
    cases hi
    have : i = n := by have := h.1; omega
    subst this
    exact ⟨h1, h2⟩
theorem PL.cut {m : Int} {fx : Nat → Option Int} {n : Nat} {ps : List Int} (h : PL m fx (n + 1) ps) : ∃ qs x, ps = qs ++ [x] ∧ PL m fx n qs ∧ (0 ≤ x ∧ x < m) ∧ ∀ v, fx n = some v → x = v := by
  have hne : ps ≠ [] := fun e => by have := h.1; rw [e] at this; simp at this
  refine ⟨ps.dropLast, ps.getLast hne, (List.dropLast_concat_getLast hne).symm, ⟨by rw [List.length_dropLast, h.1]; rfl, fun i x hi => ?_⟩, ?_⟩
  · refine h.2 i x ?_
    rw [← List.dropLast_concat_getLast hne, List.getElem?_append_left (List.getElem?_eq_some_iff.mp hi).1]
    exact hi
  · refine h.2 n _ ?_
    have := h.1
    rw [List.getLast_eq_getElem, show n = ps.length - 1 by omega]
    exact List.getElem?_eq_getElem (by omega)
theorem dot_more {ws ps : List Int} {x : Int} {n : Nat} {w : Int} (hw : ws[n]? = some w) (hp : ps.length = n) : Mk.dot (ws.take (n + 1)) (ps ++ [x]) = Mk.dot (ws.take n) ps + w * x := by
  rw [List.take_add_one, hw]
  show Mk.dot (ws.take n ++ [w]) _ = _
  rw [Mk.dot_snoc _ _ _ _ (by rw [List.length_take, hp]; have := (List.getElem?_eq_some_iff.mp hw).1; omega)]
theorem step_mod {a w x m : Int} : (a % m + w * x) % m = (a + w * x) % m := by rw [Int.add_emod, Int.emod_emod_of_dvd _ (Int.dvd_refl m), ← Int.add_emod]
/-- one letter exchanged, or two unlike neighbours -/
def Fault1 (ps qs : List Int) : Prop := (∃ (a : Nat) (p x : Int), ps[a]? = some p ∧ x ≠ p ∧ qs = ps.set a x) ∨ ∃ (a : Nat) (p q : Int), ps[a]? = some p ∧ ps[a + 1]? = some q ∧ p ≠ q ∧ qs = (ps.set a q).set (a + 1) p
def okPs (m : Int) (n : Nat) (ps : List Int) : Prop := ps.length = n ∧ ∀ x ∈ ps, 0 ≤ x ∧ x < m
theorem eqVs_self : ∀ (ws : List Int), eqVs (ws.map V.int) (ws.map V.int) = true
  | [] => rfl
  | w :: ws => by
    show (eqV (.int w) (.int w) && eqVs (ws.map V.int) (ws.map V.int)) = true
    rw [eqVs_self ws, Bool.and_true]
    show (w == w) = true
    exact beq_self_eq_true w
def sp_common_divisor : Sp := fun vs H Q _ => ∃ a b : Int, vs = [.int a, .int b] ∧ Q (.int ((Int.gcd a b : Nat) : Int)) H
theorem sc_common_divisor : FnScope ["one", "other", "left", "right", "over"] ["one", "other"] (defScope s_common_divisor) := ⟨rfl, rfl, rfl, by decide +kernel, rfl, by decide +kernel, by decide +kernel⟩
theorem ok_common_divisor {f : Addr} {fd : FuncData} (F : Fun K "common_divisor" "common_divisor" s_common_divisor f fd) (T : Bl mg) (AF : AdF K mg Ad)  : FnOk P w K mg base (CX1 P w) 1 f fd ["one", "other"] sp_common_divisor := by
  refine F.okX (k := 0) sc_common_divisor (fun vs H Q E h => ?_) (fun cdv A outer s H vs Q E hr h => ?_)
  · obtain ⟨a, b, rfl, _⟩ := h
    rfl
  · obtain ⟨a, b, rfl, k⟩ := h
    have hu := hr.units0
    have hu1 := hu_of hr
    refine ⟨_, pss_cons (ps_setL (i := 2) sc_common_divisor.nd (pe_callBG call_absX T.abs bt_abs (pa_c (pvL 0) (pa_nil)))) (pss_cons (ps_setL (i := 3) sc_common_divisor.nd (pe_callBG call_absX T.abs bt_abs (pa_c (pvL 1) (pa_nil)))) (pss_cons (ps_while PassesOwn.leaving (pt_cmpR (op_neK (K := K) rfl hu) (pvL 3) (pe_int) (nomark _)) (pss_cons (ps_setL (i := 4) sc_common_divisor.nd (pe_op op_modX (pvL 2) (pvL 3))) (pss_cons (ps_setL (i := 2) sc_common_divisor.nd (pvL 3)) (pss_one (ps_setL (i := 3) sc_common_divisor.nd (pvL 4)))))) (pss_one (ps_ret (pvL 2))))), ?_⟩
    ac_nf
    refine while_x (fun σ H' => H' = H ∧ ∃ (l r : Nat) (o : Option V), σ = [some (.int a), some (.int b), some (.int l), some (.int r), o] ∧ Nat.gcd l r = Int.gcd a b)
      (fun σ _ => match σ with | [_, _, _, some (.int r), _] => r.toNat | _ => 0) ⟨rfl, a.natAbs, b.natAbs, none, rfl, rfl⟩ ?_
    rintro σ H' ⟨rfl, l, r, o, rfl, hg⟩
    ac_nf
    by_cases hr0 : r = 0
    · subst hr0
      rw [Nat.gcd_zero_right] at hg
      subst hg
      exact k
    · have e : (!decide ((r : Int) = 0)) = true := by simp [hr0]
      rw [if_pos e]
      refine ⟨_, fun _ _ h => h, by omega, ⟨rfl, r, l % r, some (.int ((l % r : Nat) : Int)), ?_, ?_⟩, ?_⟩
      · rw [Int.natCast_emod]
      · rw [← hg, Nat.gcd_comm l r, Nat.gcd_rec r l, Nat.gcd_comm]
      · show ((l : Int) % (r : Int)).toNat < ((r : Int)).toNat
        have h1 : (l : Int) % (r : Int) < r := Int.emod_lt_of_pos _ (by omega)
        have h2 : 0 ≤ (l : Int) % (r : Int) := Int.emod_nonneg _ (by omega)
        omega
def sp_spelled : Sp := fun vs H Q _ => ∃ (al : Str) (q : Addr) (ps : List Int), vs = [.str al, .ref q] ∧ al.length ≤ 1000 ∧ H q = some (.lst (ps.map V.int)) ∧ ps.length ≤ 1000 ∧ (∀ p ∈ ps, 0 ≤ p ∧ p < al.cps.toList.length) ∧ ∀ H', Same H H' → Q (.str (tx (Mk.spell al.cps.toList ps))) H'
theorem sc_spelled : FnScope ["alphabet", "places"] ["alphabet", "places"] (defScope s_spelled) := ⟨rfl, rfl, rfl, by decide +kernel, rfl, by decide +kernel, by decide +kernel⟩
theorem ok_spelled {f : Addr} {fd : FuncData} (F : Fun K "spelled" "spelled" s_spelled f fd) (T : Bl mg) (AF : AdF K mg Ad)  : FnOk P w K mg base (CX1 P w) 1 f fd ["alphabet", "places"] sp_spelled := by
  refine F.okX (k := 0) sc_spelled (fun vs H Q E h => ?_) (fun cdv A outer s H vs Q E hr h => ?_)
  · obtain ⟨al, q, ps, rfl, _⟩ := h
    rfl
  · obtain ⟨al, q, ps, rfl, hal, hq, hl, hm, k⟩ := h
    have hu := hr.units0
    have hu1 := hu_of hr
    refine ⟨_, pss_one (ps_ret (pe_bmG (K := K) rfl PySem.F.plainAttrs_str PySem.F.slot_str_join PySem.F.type_str_join (mt_joinK (K := K) rfl) (pe_str) (pa_c (pe_lc ["place"] rfl ⟨rfl, by decide +kernel, rfl, by decide +kernel⟩ (.cons (j := 0) rfl (.inl (by kernel_rfl)) (.nil)) (by decide +kernel) (pi_seqK (K := K) rfl (pvL 1)) (fun _ _ _ _ => pg_nameL (i := 0) (show (["place", "alphabet"] : List Str).Nodup from by decide +kernel)) (fun _ _ _ _ => pif_nil) (fun _ _ _ _ => pe_ix (ix_K (K := K) rfl) (pvC 1) (pvL 0) (fun _ _ => rfl))) (pa_nil)))), ?_⟩
    ac_nf
    refine ⟨by rfl, .inl ⟨⟨_, .of hq⟩, lc_M V.int inj_int (seq_list (.of hq)) (small_line (by omega)) (fun x => .str (tx [al.cps.toList.getD x.toNat 0])) ?_ ?_⟩⟩
    · intro x hx H5 t5 R hR
      ac_nf
      refine ⟨Nat.le_of_lt (small_line (by omega)), _, atI_of (hm x hx).1 (Mk.getD_at (hm x hx)), ?_⟩
      exact hR H5 (Same.refl _)
    · intro D H5 hD t5 h5
      ac_nf
      refine ⟨(Mk.spell al.cps.toList ps).map fun c => tx [c], js_seq (by rw [h5]; unfold Mk.spell; rw [List.map_map]; rfl), js_len (by rw [Mk.spell_len]; omega), ?_⟩
      rw [js_join]
      exact k H5 t5
def sp_good_places : Sp := fun vs H Q _ => ∃ (m : Int) (pw : Addr) (ws : List Int) (r : Int) (f : Addr) (kvs : List (Key × V)) (fx : Nat → Option Int), vs = [.int m, .ref pw, .int r, .ref f] ∧ 1 ≤ m ∧ m ≤ 26 ∧ H pw = some (.lst (ws.map V.int)) ∧ ws.length ≤ 8 ∧ Mk.sml ws ∧ H f = some (.dK kvs) ∧ (∀ i : Nat, valV kvs (.inl (i : Int)) = (fx i).map V.int) ∧ (∀ i v, fx i = some v → 0 ≤ v ∧ v < m) ∧
  (∀ q ps H', Same H H' → H' q = some (.lst (ps.map V.int)) → PL m fx ws.length ps → (Mk.dot ws ps - r) % m = 0 → Q (.ref q) H') ∧ (∀ H', Same H H' → (∀ ps, PL m fx ws.length ps → (Mk.dot ws ps - r) % m ≠ 0) → Q .non H')
theorem sc_good_places : FnScope ["m", "weights", "rest", "fixed", "beginnings", "at", "weight", "choices", "longer", "total", "places", "place"] ["m", "weights", "rest", "fixed"] (defScope s_good_places) := ⟨rfl, rfl, rfl, by decide +kernel, rfl, by decide +kernel, by decide +kernel⟩
theorem ok_good_places {f : Addr} {fd : FuncData} (F : Fun K "good_places" "good_places" s_good_places f fd) (T : Bl mg) (AF : AdF K mg Ad)  : FnOk P w K mg base (CX1 P w) 1 f fd ["m", "weights", "rest", "fixed"] sp_good_places := by
  refine F.okX (k := 0) sc_good_places (fun vs H Q E h => ?_) (fun cdv A outer s H vs Q E hr h => ?_)
  · obtain ⟨m, pw, ws, r, f, kvs, fx, rfl, _⟩ := h
    rfl
  · obtain ⟨m, pw, ws, r, f, kvf, fx, rfl, hm1, hm26, hw, hwl, hws, hf, hfx, hfb, k1, k2⟩ := h
    have hu := hr.units0
    have hu1 := hu_of hr
    refine ⟨_, pss_cons (ps_setL (i := 4) sc_good_places.nd (pe_dispX (pps_cons (pe_int) (pe_lstX (pa_nil)) (pps_nil)) rfl rfl (fun e => nomatch e) (Nat.le_of_ble_eq_true rfl))) (pss_cons (ps_for PassesOwn.leaving rfl (pi_enumG (K := K) rfl T.enumerate (pa_c (pvL 1) (pa_nil))) (pg_tupK (K := K) (n := 2) rfl rfl (pgs_cons (pg_nameL (i := 5) sc_good_places.nd) (pgs_cons (pg_nameL (i := 6) sc_good_places.nd) (pgs_nil)))) (pss_cons (ps_setL (i := 7) sc_good_places.nd (pe_ifExp (pt_cmpR (op_inK (K := K) rfl hu1) (pvL 5) (pvL 3) (by kernel_rfl)) (pe_lstX (pa_c (pe_dgetG hu1 (pvL 3) (pvL 5)) (pa_nil))) (pe_callTyG (call_listK (K := K) rfl rfl) T.list bt_list (pa_c (pe_callTyG call_rngX T.range bt_range (pa_c (pvL 0) (pa_nil))) (pa_nil))))) (pss_cons (ps_setL (i := 8) sc_good_places.nd (pe_dnewX)) (pss_cons (ps_for PassesOwn.leaving rfl (pi_view (pe_bm0G (K := K) rfl PySem.F.plainAttrs_dict PySem.F.slot_dict_items PySem.F.type_dict_items mt_items (pvL 4))) (pg_tupK (K := K) (n := 2) rfl rfl (pgs_cons (pg_nameL (i := 9) sc_good_places.nd) (pgs_cons (pg_nameL (i := 10) sc_good_places.nd) (pgs_nil)))) (pss_one (ps_for PassesOwn.leaving rfl (pi_seqK (K := K) rfl (pvL 7)) (pg_nameL (i := 11) sc_good_places.nd) (pss_one (ps_expr (pe_bmG (K := K) rfl PySem.F.plainAttrs_dict PySem.F.slot_dict_setdefault PySem.F.type_dict_setdefault mt_setdef (pvL 8) (pa_c (pe_op op_modX (pe_op op_addX (pvL 9) (pe_op op_mulX (pvL 6) (pvL 11))) (pvL 0)) (pa_c (pe_op op_addX (pvL 10) (pe_lstX (pa_c (pvL 11) (pa_nil)))) (pa_nil))))))))) (pss_one (ps_setL (i := 4) sc_good_places.nd (pvL 8))))))) (pss_one (ps_ret (pe_dget1G hu1 (pvL 4) (pe_op op_modX (pvL 2) (pvL 0)))))), ?_⟩
    have big : ∀ {u : Nat}, u ≤ 1000 → u ≤ sizeLine := fun hu => Nat.le_of_lt (small_line (by omega))
    refine seq_go fun nn hN => ?_
    and_intros
    intro b0 G1 z1 s1 h1
    refine ⟨Nat.zero_le _, fun q0 G2 z2 s2 h2 => ⟨s2 _ _ h1, [(.inl 0, .ref q0)], rfl, by simp, fun G3 f3 h3 => ?_⟩⟩
    have sH : Same H G3 := fun c o e => f3 c o (fun e2 => by rw [e2, z1] at e; cases e) (s2 _ _ (s1 _ _ e))
    have hqb : q0 ≠ b0 := fun e => by rw [e, h1] at z2; cases z2
    have h2' := f3 q0 _ hqb h2
    have hB0 : Beg G3 m fx ws 0 [(.inl 0, .ref q0)] := by
      refine ⟨List.Pairwise.cons (fun _ h => nomatch h) .nil, fun p hp => ?_⟩
      rw [List.mem_singleton.mp hp]
      exact ⟨0, q0, [], rfl, ⟨Int.le_refl 0, by omega⟩, h2', ⟨rfl, fun i x hi => by simp at hi⟩, by rw [List.take_zero, Mk.dot_nil]; exact Int.zero_emod m⟩
    have hC0 : Cmp m fx ws 0 [(.inl 0, .ref q0)] := fun ps hp => by
      rw [List.take_zero, Mk.dot_nil, Int.zero_emod, valV_pos rfl]; rfl
    rw [hN]
    clear hN nn h2 h2' f3 s1 s2 z2 h1 hqb
    refine seq_go fun nn hN => ?_
    and_intros
    refine ⟨pw, rfl, ⟨_, .of (sH _ _ hw)⟩, ?_⟩
    refine for_enumO (xs := ws.map V.int) (fun i σ H' => ∃ (b : Addr) (kvs : List (Key × V)), (∃ o5 o6 o7 o8 o9 o10 o11, σ = [some (.int m), some (.ref pw), some (.int r), some (.ref f), some (.ref b), o5, o6, o7, o8, o9, o10, o11]) ∧ H b = none ∧ Same H H' ∧ H' b = some (.dK kvs) ∧ Beg H' m fx ws i kvs ∧ Cmp m fx ws i kvs) ?_ ?_ ?_ ?_
    · exact ⟨b0, _, ⟨_, _, _, _, _, _, _, rfl⟩, z1, sH, h3, hB0, hC0⟩
    · rintro i σ H' _ ⟨b, kvs, _, _, s, _⟩
      exact .of (s _ _ hw)
    · rintro i x σ A1 hx ⟨b, kvs, ⟨o5, o6, o7, o8, o9, o10, o11, rfl⟩, zb, sA, hb, hB, hC⟩ N hNx p A2 zp s2 h2
      clear hN hB0 hC0 h3 sH
      obtain ⟨w, hwi, rfl⟩ : ∃ w, ws[i]? = some w ∧ x = V.int w := by
        rw [List.getElem?_map] at hx
        cases e : ws[i]? with
        | none => rw [e] at hx; cases hx
        | some w => rw [e] at hx; cases hx; exact ⟨w, rfl, rfl⟩
      refine ⟨p, _, rfl, .of h2, rfl, ?_⟩
      and_intros
      have sA2 := sA.trans s2
      have hfA := sA2 _ _ hf
      have hbA := s2 _ _ hb
      have hBA := hB.keep fun q xs e => s2 _ _ e
      clear hb hB s2 h2 zp sA
      refine cut_seq (fun σ H' => ∃ (c : Addr) (cs : List Int), σ = [some (.int m), some (.ref pw), some (.int r), some (.ref f), some (.ref b), some (.int (i : Int)), some (.int w), some (.ref c), o8, o9, o10, o11] ∧ Same A2 H' ∧ H' c = some (.lst (cs.map V.int)) ∧ (∀ x, x ∈ cs ↔ (0 ≤ x ∧ x < m) ∧ ∀ v, fx i = some v → x = v) ∧ cs.length ≤ 26) ?_ ?_
      · rintro σ B1 ⟨c, cs, rfl, t1, hc, hcs, hcl⟩
        refine seq_go fun n2 hM => ?_
        and_intros
        intro d B2 zd t2 hd
        rw [hM]
        clear hM n2
        refine seq_go fun n2 hM => ?_
        and_intros
        have hb2 := t2 _ _ (t1 _ _ hbA)
        have hdb : d ≠ b := fun e => by rw [e, t1 _ _ hbA] at zd; cases zd
        refine ⟨.inr (.inr (.inl ⟨rfl, .inl ⟨kvs, hb2⟩⟩)), kvs, hb2, fun pv B3 zv t3 h3 => ⟨pv, b, kvs, rfl, h3, t3 _ _ hb2, fun ob B4 f4 h4 => ?_⟩⟩
        have hd4 : B4 d = some (.dK []) := f4 d _ hdb (t3 _ _ hd)
        have fl : ∀ q xs, A2 q = some (.lst xs) → B4 q = some (.lst xs) := fun q xs e => f4 q _ (fun e2 => by rw [e2, hbA] at e; cases e) (t3 _ _ (t2 _ _ (t1 _ _ e)))
        have hB4 := hBA.keep fl
        have hc4 : B4 c = some (.lst (cs.map V.int)) := f4 c _ (fun e2 => by rw [e2, t1 _ _ hbA] at hc; cases hc) (t3 _ _ (t2 _ _ hc))
        have sH4 : Same H B4 := fun q o e => f4 q o (fun e2 => by rw [e2, zb] at e; cases e) (t3 _ _ (t2 _ _ (t1 _ _ (sA2 _ _ e))))
        have hdc : c ≠ d := fun e => by rw [e, hd4] at hc4; cases hc4
        have zdH : H d = none := by
          cases e : H d with
          | none => rfl
          | some o => rw [t1 _ _ (sA2 _ _ e)] at zd; cases zd
        have w3 : ∀ x ∈ cs, 0 ≤ x ∧ x < m := fun x hx => ((hcs x).mp hx).1
        clear t1 t2 t3 zd hd hb2 h3 zv f4 hbA hBA hfA
        refine for_itmO (fun j σ H' => ∃ (kvl : List (Key × V)), (∃ o9 o10 o11, σ = [some (.int m), some (.ref pw), some (.int r), some (.ref f), some (.ref b), some (.int (i : Int)), some (.int w), some (.ref c), some (.ref d), o9, o10, o11]) ∧ (∀ q o, q ≠ d → B4 q = some o → H' q = some o) ∧ H' d = some (.dK kvl) ∧ Beg H' m fx ws (i + 1) kvl ∧ ∀ (j' : Nat) (r' : Int) (v' : V), j' < j → kvs[j']? = some (.inl r', v') → ∀ x ∈ cs, (valV kvl (.inl ((r' + w * x) % m))).isSome = true) ?_ ?_ ?_ ?_
        · exact ⟨[], ⟨_, _, _, rfl⟩, fun _ _ _ h => h, hd4, ⟨.nil, fun _ h => nomatch h⟩, fun j' _ _ h => absurd h (Nat.not_lt_zero j')⟩
        · rintro j σ H' _ ⟨kvl, _, fr, _⟩
          exact fr b _ (Ne.symm hdb) h4
        · rintro j k x σ C1 hkx ⟨kvl, ⟨o9, o10, o11, rfl⟩, fr, hdl, hBl, hCl⟩ N2 hN2 p2 C2 zp2 u2 h2
          clear hM hNx
          obtain ⟨r', q, ps, ekx, hr', hq4, hPL, hdot⟩ := hB4.2 _ (List.mem_of_getElem? hkx)
          cases ekx
          have hdq : q ≠ d := fun e => by rw [e, hd4] at hq4; cases hq4
          refine ⟨p2, _, rfl, .of h2, rfl, ?_⟩
          and_intros
          have hc5 := u2 _ _ (fr c _ hdc hc4)
          refine .inl ⟨⟨_, .of hc5⟩, ?_⟩
          refine for_lstO (xs := cs.map V.int) (fun l σ H' => ∃ (kvl : List (Key × V)), (∃ o11, σ = [some (.int m), some (.ref pw), some (.int r), some (.ref f), some (.ref b), some (.int (i : Int)), some (.int w), some (.ref c), some (.ref d), some (.int r'), some (.ref q), o11]) ∧ (∀ q o, q ≠ d → B4 q = some o → H' q = some o) ∧ H' d = some (.dK kvl) ∧ Beg H' m fx ws (i + 1) kvl ∧ (∀ (j' : Nat) (r' : Int) (v' : V), j' < j → kvs[j']? = some (.inl r', v') → ∀ x ∈ cs, (valV kvl (.inl ((r' + w * x) % m))).isSome = true) ∧ ∀ (l' : Nat) (x : Int), l' < l → cs[l']? = some x → (valV kvl (.inl ((r' + w * x) % m))).isSome = true) ?_ ?_ ?_ ?_
          · exact ⟨kvl, ⟨_, rfl⟩, fun q o hq e => u2 _ _ (fr q o hq e), u2 _ _ hdl, hBl.keep fun q xs e => u2 _ _ e, hCl, fun l' _ h => absurd h (Nat.not_lt_zero l')⟩
          · rintro l σ H' _ ⟨kvl, _, fr, _⟩
            exact .of (fr c _ hdc hc4)
          · rintro l y σ D1 hy ⟨kvl, ⟨o11, rfl⟩, fr, hdl, hBl, hCl, hDl⟩ N3 hN3
            clear hN2
            obtain ⟨x, hx, rfl⟩ : ∃ x, cs[l]? = some x ∧ y = V.int x := by
              rw [List.getElem?_map] at hy
              cases e : cs[l]? with
              | none => rw [e] at hy; cases hy
              | some w => rw [e] at hy; cases hy; exact ⟨w, rfl, rfl⟩
            have hxm := List.mem_of_getElem? hx
            have hxb := w3 x hxm
            have hwb := hws w (List.mem_of_getElem? hwi)
            have hpl : ps.length ≤ 8 := by have := hPL.1; have := (List.getElem?_eq_some_iff.mp hwi).1; omega
            have hPL2 := hPL.snoc hxb fun v hv => ((hcs x).mp hxm).2 v hv
            have hdot2 : Mk.dot (ws.take (i + 1)) (ps ++ [x]) % m = (r' + w * x) % m := by rw [dot_more hwi hPL.1, ← hdot, step_mod]
            have hkb : 0 ≤ (r' + w * x) % m ∧ (r' + w * x) % m < m := ⟨Int.emod_nonneg _ (by omega), Int.emod_lt_of_pos _ (by omega)⟩
            and_intros
            refine ⟨.inr (.inr (.inl ⟨rfl, .inl ⟨kvl, hdl⟩⟩)), cbig_small hwb (by omega), by omega, big (by decide), fun z1 E1 zz1 v1 g1 => ⟨_, _, v1 _ _ (fr q _ hdq hq4), g1, by rw [List.length_map]; exact big (show ps.length + 1 ≤ 1000 by omega), fun z2 E2 zz2 v2 g2 => ?_⟩⟩
            have v12 := v1.trans v2
            have g2' : E2 z2 = some (.lst ((ps ++ [x]).map V.int)) := by rw [g2, List.map_append]; rfl
            have hl26 := hBl.len hm26
            have hlast : ∀ {kvl' : List (Key × V)}, (∀ key, (valV kvl key).isSome = true → (valV kvl' key).isSome = true) → (valV kvl' (.inl ((r' + w * x) % m))).isSome = true → ∀ (l' : Nat) (x' : Int), l' < l + 1 → cs[l']? = some x' → (valV kvl' (.inl ((r' + w * x') % m))).isSome = true := fun mono h0 l' x' hl' hx' => by
              rcases Nat.lt_or_ge l' l with hlt | hge
              · exact mono _ (hDl l' x' hlt hx')
              · have : l' = l := by omega
                subst this
                rw [hx] at hx'
                cases hx'
                exact h0
            refine ⟨kvl, .inl ((r' + w * x) % m), v12 _ _ hdl, rfl, small_line (by omega), fun u hu => hN3 _ _ ⟨kvl, ⟨_, rfl⟩, fun q o hq e => v12 _ _ (fr q o hq e), v12 _ _ hdl, hBl.keep fun q xs e => v12 _ _ e, hCl, hlast (fun _ h => h) (by rw [hu]; rfl)⟩, fun hn => hN3 _ _ ⟨putK kvl (.inl ((r' + w * x) % m)) (.ref z2), ⟨_, rfl⟩, fun q o hq e => by rw [upd_ne hq]; exact v12 _ _ (fr q o hq e), upd_same, ?_, ?_, ?_⟩⟩
            · have hz2 : z2 ≠ d := fun e => by rw [e, v1 _ _ hdl] at zz2; cases zz2
              refine (hBl.keep fun q xs e => ?_).put hn hkb (by rw [upd_ne hz2]; exact g2') hPL2 hdot2
              rw [upd_ne (fun e2 => by rw [e2, hdl] at e; cases e)]
              exact v12 _ _ e
            · intro j' r2 v2' hj hkv y hy'
              rw [valV_put]
              split
              · rfl
              · exact hCl j' r2 v2' hj hkv y hy'
            · refine hlast (fun key h => ?_) ?_
              · rw [valV_put]
                split
                · rfl
                · exact h
              · rw [valV_put, if_pos rfl]; rfl
          · rintro σ D1 ⟨kvl, ⟨o11, rfl⟩, fr, hdl, hBl, hCl, hDl⟩
            refine hN2 _ _ ⟨kvl, ⟨_, _, _, rfl⟩, fr, hdl, hBl, fun j' r2 v2 hj hkv x hx => ?_⟩
            rcases Nat.lt_or_ge j' j with hlt | hge
            · exact hCl j' r2 v2 hlt hkv x hx
            · have : j' = j := by omega
              subst this
              rw [hkx] at hkv
              cases hkv
              obtain ⟨l', hl'⟩ := List.getElem?_of_mem hx
              rw [List.length_map] at hDl
              exact hDl l' x (List.getElem?_eq_some_iff.mp hl').1 hl'
        · rintro σ C1 ⟨kvl, ⟨o9, o10, o11, rfl⟩, fr, hdl, hBl, hCl⟩
          show n2 _ _ _
          rw [hM]
          clear hM n2
          and_intros
          refine hNx _ _ ⟨d, kvl, ⟨_, _, _, _, _, _, _, rfl⟩, zdH, fun q o e => fr q o (fun e2 => by rw [e2, zdH] at e; cases e) (sH4 _ _ e), hdl, hBl, fun ps' hp' => ?_⟩
          obtain ⟨ps, x, rfl, hps, hx1, hx2⟩ := hp'.cut
          obtain ⟨j', v', hj'⟩ := val_mem (hC ps hps)
          have := hCl j' _ v' (List.getElem?_eq_some_iff.mp hj').1 hj' x ((hcs x).mpr ⟨hx1, hx2⟩)
          rw [step_mod, ← dot_more hwi hps.1] at this
          exact this
      · intro U hU
        and_intros
        refine .inr ⟨_, DGet.k (k := .inl (i : Int)) hfA, ?_⟩
        have hfi := hfx i
        cases hv : fx i with
        | some v =>
          rw [hv] at hfi
          have hfi : valV kvf (.inl (i : Int)) = some (V.int v) := hfi
          rw [if_pos (by rw [hfi]; rfl)]
          refine ⟨f, _, rfl, by have := DGet.k (k := .inl (i : Int)) hfA; rw [hfi] at this; exact this, big (by decide), fun c B1 zc t1 hc => hU _ _ ⟨c, [v], rfl, t1, hc, fun x => ?_, by simp⟩⟩
          have hvb := hfb i v hv
          rw [List.mem_singleton]
          exact ⟨fun e => by subst e; exact ⟨hvb, fun v' e' => by rw [hv] at e'; cases e'; rfl⟩, fun h => h.2 v hv⟩
        | none =>
          rw [hv] at hfi
          rw [if_neg (by rw [hfi]; decide)]
          intro c0 B0 z0 t0 hc0
          refine ⟨_, .inr ⟨0, m, hc0, by omega, by omega, rfl⟩, fun c B1 zc t1 hc => hU _ _ ⟨c, Mk.ofN m.toNat, rfl, t0.trans t1, ?_, fun x => ?_, by rw [Mk.ofN_len]; omega⟩⟩
          · rw [hc, Int.sub_zero, rngV_ints]
          · rw [Mk.mem_ofN]
            exact ⟨fun h => ⟨⟨h.1, by omega⟩, fun v' e' => by rw [hv] at e'; cases e'⟩, fun h => ⟨h.1.1, by omega⟩⟩
    · rintro σ H' ⟨b, kvs, ⟨o5, o6, o7, o8, o9, o10, o11, rfl⟩, zb, s, hb, hB, hC⟩
      show nn _ _ _
      rw [hN]
      clear hN nn
      and_intros
      rw [List.length_map] at hB hC
      refine ⟨.inl ⟨kvs, .of hb⟩, by omega, _, DGet.k (k := .inl (r % m)) hb, ?_⟩
      have etk : ws.take ws.length = ws := List.take_of_length_le (Nat.le_refl _)
      cases hv : valV kvs (.inl (r % m)) with
      | none =>
        refine k2 H' s fun ps hp h0 => ?_
        have h1 := hC ps hp
        have e : Mk.dot ws ps % m = r % m := Int.emod_eq_emod_iff_emod_sub_eq_zero.mpr h0
        rw [etk, e, hv] at h1
        cases h1
      | some v =>
        obtain ⟨i, v', hi⟩ := val_mem (kvs := kvs) (k := .inl (r % m)) (by rw [hv]; rfl)
        obtain ⟨r', q, ps, e1, _, e2, e3, e4⟩ := hB.2 _ (List.mem_of_getElem? hi)
        cases e1
        have hvv : v = .ref q := by
          have := valV_of_mem hB.1 (List.mem_of_getElem? hi)
          rw [hv] at this
          cases this
          rfl
        subst hvv
        rw [etk] at e4
        exact k1 q ps H' s e2 e3 (Int.emod_eq_emod_iff_emod_sub_eq_zero.mp e4)
def sp_law_cell_at (K : PySem.W.Frag) : Sp := fun vs H Q _ => ∃ (a : Addr) (ns : List Int) (k : Int), vs = [.ref a, .int k] ∧ SqL K H a (ns.map V.int) ∧ 0 ≤ k ∧ Q (.int (ns.getD k.toNat 0)) H
theorem sc_law_cell_at : FnScope ["_law_script", "_law_k"] ["_law_script", "_law_k"] (defScope s_law_cell_at) := ⟨rfl, rfl, rfl, by decide +kernel, rfl, by decide +kernel, by decide +kernel⟩
theorem ok_law_cell_at {f : Addr} {fd : FuncData} (F : Fun K "_law_cell_at" "_law_cell_at" s_law_cell_at f fd) (T : Bl mg) (AF : AdF K mg Ad)  : FnOk P w K mg base (CX1 P w) 1 f fd ["_law_script", "_law_k"] (sp_law_cell_at K) := by
  refine F.okX (k := 0) sc_law_cell_at (fun vs H Q E h => ?_) (fun cdv A outer s H vs Q E hr h => ?_)
  · obtain ⟨a, ns, k, rfl, _⟩ := h
    rfl
  · obtain ⟨a, ns, i, rfl, hS, hi, k⟩ := h
    have hu := hr.units0
    have hu1 := hu_of hr
    refine ⟨_, pss_cons (ps_if (pt_cmpR op_ltX (pvL 1) (pe_callBG (call_lenK (K := K) rfl) T.len bt_len (pa_c (pvL 0) (pa_nil))) (nomark _)) (pss_one (ps_ret (pe_ix (ix_K (K := K) rfl) (pvL 0) (pvL 1) (fun _ _ => rfl)))) (pss_nil)) (pss_one (ps_ret (pe_int))), ?_⟩
    ac_nf
    refine ⟨_, .inl hS, ?_⟩
    rw [List.length_map]
    by_cases hlt : i < (ns.length : Int)
    · rw [if_pos (decide_eq_true hlt)]
      refine ⟨_, .int (ns.getD i.toNat 0), .inl hS, ?_, k⟩
      have e : (ns.map V.int)[i.toNat]? = some (.int (ns.getD i.toNat 0)) := by
        rw [List.getElem?_map, List.getD_eq_getElem?_getD, List.getElem?_eq_getElem (by omega)]; rfl
      have := atI_nat e
      rwa [Int.toNat_of_nonneg hi] at this
    · rw [if_neg (by rw [decide_eq_true_eq]; exact hlt)]
      have e : ns.getD i.toNat 0 = 0 := by rw [List.getD_eq_getElem?_getD, List.getElem?_eq_none (by omega)]; rfl
      rw [e] at k
      exact k
def sp_law_mixed : Sp := fun vs H Q _ => ∃ c : Int, vs = [.int c] ∧ Q (.int (Mk.mixed c)) H
theorem sc_law_mixed : FnScope ["_law_cell", "_law_many"] ["_law_cell"] (defScope s_law_mixed) := ⟨rfl, rfl, rfl, by decide +kernel, rfl, by decide +kernel, by decide +kernel⟩
theorem ok_law_mixed {f : Addr} {fd : FuncData} (F : Fun K "_law_mixed" "_law_mixed" s_law_mixed f fd) (T : Bl mg) (AF : AdF K mg Ad)  : FnOk P w K mg base (CX1 P w) 1 f fd ["_law_cell"] sp_law_mixed := by
  refine F.okX (k := 0) sc_law_mixed (fun vs H Q E h => ?_) (fun cdv A outer s H vs Q E hr h => ?_)
  · obtain ⟨c, rfl, _⟩ := h
    rfl
  · obtain ⟨c, rfl, k⟩ := h
    have hu := hr.units0
    have hu1 := hu_of hr
    refine ⟨_, pss_cons (ps_setL (i := 1) sc_law_mixed.nd (pe_int)) (pss_one (ps_ret (pe_op op_modX (pe_op op_addX (pe_op op_mulX (pe_op op_modX (pvL 0) (pe_op op_powX (pe_int) (pe_int))) (pvL 1)) (pe_int)) (pe_op op_addX (pe_op op_powX (pe_int) (pe_int)) (pe_int))))), ?_⟩
    ac_nf
    have h1 : 0 ≤ c % 10 ^ 60 := Int.emod_nonneg _ (by decide)
    have h2 : c % 10 ^ 60 < 10 ^ 60 := Int.emod_lt_of_pos _ (by decide)
    refine ⟨⟨by decide, by decide, by decide⟩, by decide, ⟨?_, by decide⟩, ⟨by decide, by decide, by decide⟩, by decide, k⟩
    have e : (c % 10 ^ Int.toNat 60) = c % 10 ^ 60 := rfl
    rw [e]
    have h3 : (10 : Int) ^ 60 ≤ ((2 ^ 1000 : Nat) : Int) := by decide
    omega
def sp_law_alphabet : Sp := fun vs H Q _ => ∃ c : Int, vs = [.int c] ∧ ∀ H', Same H H' → Q (.str (tx (Mk.alpha c))) H'
theorem sc_law_alphabet : FnScope ["_law_cell", "_law_some", "_law_many", "_law_step"] ["_law_cell"] (defScope s_law_alphabet) := ⟨rfl, rfl, rfl, by decide +kernel, rfl, by decide +kernel, by decide +kernel⟩
theorem ok_law_alphabet {f : Addr} {fd : FuncData} (F : Fun K "_law_alphabet" "_law_alphabet" s_law_alphabet f fd) (T : Bl mg) (AF : AdF K mg Ad)  : FnOk P w K mg base (CX1 P w) 1 f fd ["_law_cell"] sp_law_alphabet := by
  refine F.okX (k := 0) sc_law_alphabet (fun vs H Q E h => ?_) (fun cdv A outer s H vs Q E hr h => ?_)
  · obtain ⟨c, rfl, _⟩ := h
    rfl
  · obtain ⟨c, rfl, k⟩ := h
    have hu := hr.units0
    have hu1 := hu_of hr
    refine ⟨_, pss_cons (ps_setC (i := 1) sc_law_alphabet.nd (pe_str)) (pss_cons (ps_setL (i := 2) sc_law_alphabet.nd (pe_ix (ix_K (K := K) rfl) (pe_lstX (pa_c (pe_int) (pa_c (pe_int) (pa_c (pe_int) (pa_c (pe_int) (pa_c (pe_int) (pa_c (pe_int) (pa_c (pe_int) (pa_c (pe_int) (pa_c (pe_int) (pa_c (pe_int) (pa_c (pe_int) (pa_c (pe_int) (pa_nil)))))))))))))) (pe_op op_modX (pvC 0) (pe_int)) (fun _ _ => rfl))) (pss_cons (ps_if (pt_cmpR (op_eqK (K := K) rfl hu) (pe_op op_modX (pe_op op_fdivX (pvC 0) (pe_int)) (pe_int)) (pe_int) (nomark _)) (pss_one (ps_setL (i := 2) sc_law_alphabet.nd (pe_op op_addX (pe_int) (pe_op op_modX (pe_op op_fdivX (pvC 0) (pe_int)) (pe_int))))) (pss_nil)) (pss_cons (ps_setC (i := 3) sc_law_alphabet.nd (pe_ix (ix_K (K := K) rfl) (pe_lstX (pa_c (pe_int) (pa_c (pe_int) (pa_c (pe_int) (pa_c (pe_int) (pa_c (pe_int) (pa_c (pe_int) (pa_c (pe_int) (pa_c (pe_int) (pa_c (pe_int) (pa_nil))))))))))) (pe_op op_modX (pe_op op_fdivX (pvC 0) (pe_int)) (pe_int)) (fun _ _ => rfl))) (pss_one (ps_ret (pe_bmG (K := K) rfl PySem.F.plainAttrs_str PySem.F.slot_str_join PySem.F.type_str_join (mt_joinK (K := K) rfl) (pe_str) (pa_c (pe_lc ["_law_k"] rfl ⟨rfl, by decide +kernel, rfl, by decide +kernel⟩ (.cons (j := 1) rfl (.inl (by kernel_rfl)) (.cons (j := 0) rfl (.inl (by kernel_rfl)) (.cons (j := 3) rfl (.inl (by kernel_rfl)) (.nil)))) (by decide +kernel) (pi_range1G T.range (pa_c (pvL 2) (pa_nil))) (fun _ _ _ _ => pg_nameL (i := 0) (show (["_law_k", "_law_some", "_law_cell", "_law_step"] : List Str).Nodup from by decide +kernel)) (fun _ _ _ _ => pif_nil) (fun _ _ _ _ => pe_ix (ix_K (K := K) rfl) (pvC 1) (pe_op op_modX (pe_op op_addX (pe_op op_fdivX (pvC 2) (pe_int)) (pe_op op_mulX (pvC 3) (pvL 0))) (pe_int)) (fun _ _ => rfl))) (pa_nil)))))))), ?_⟩
    have q1 := Int.emod_nonneg c (b := 12) (by decide)
    have q2 := Int.emod_lt_of_pos c (b := 12) (by decide)
    have q3 := Int.emod_nonneg (c / 1000) (b := 9) (by decide)
    have q4 := Int.emod_lt_of_pos (c / 1000) (b := 9) (by decide)
    have hN := Mk.alphaN_bounds c
    rw [ap_seq]
    and_intros
    rw [ap_seq]
    and_intros
    refine ⟨by decide, fun p H0 hp s0 h0 => ⟨by decide, _, _, .l h0, atI_ints (l := [3, 5, 7, 9, 11, 15, 21, 25, 26, 4, 6, 13]) q1 (by show c % 12 < 12; exact q2), ?_⟩⟩
    refine cut_seq (fun σ H' => σ = [some (.int c), some (.str "abcdefghijklmnopqrstuvwxyz"), some (.int (Mk.alphaN c)), none] ∧ Same H H') ?_ ?_
    · rintro σ H1 ⟨rfl, s1⟩
      rw [ap_seq]
      and_intros
      refine ⟨by decide, fun r H1' hr s1' h1 => ⟨⟨by decide, by decide⟩, by decide, _, _, .l h1, atI_ints (l := [1, 25, 3, 5, 7, 9, 11, 15, 17]) q3 (by show c / 1000 % 9 < 9; exact q4), ?_⟩⟩
      and_intros
      have hS : [1, 25, 3, 5, 7, 9, 11, 15, 17].getD (c / 1000 % 9).toNat 0 = Mk.alphaS c := rfl
      rw [hS]
      have hSm := Mk.alphaS_mem c
      have hSb : 0 ≤ Mk.alphaS c ∧ Mk.alphaS c < 1000 := by
        simp only [List.mem_cons, List.not_mem_nil, or_false] at hSm; omega
      refine ⟨by rfl, by omega, by omega, ?_⟩
      refine lc_M V.int inj_int (seq_ofN _) (by rw [Mk.ofN_len]; exact small_line (by omega)) (fun k => .str (tx [97 + ((c / 9000 + Mk.alphaS c * k) % 26).toNat])) ?_ ?_
      · intro k hk H2 s2 R hR
        have hk' := Mk.mem_ofN.mp hk
        have e1 := Int.emod_nonneg (c / 9000 + Mk.alphaS c * k) (b := 26) (by decide)
        have e2 := Int.emod_lt_of_pos (c / 9000 + Mk.alphaS c * k) (b := 26) (by decide)
        ac_nf
        refine ⟨⟨by decide, by decide⟩, cbig_small hSb (by omega), by decide, abc_line, _, atI_of e1 (v := 97 + ((c / 9000 + Mk.alphaS c * k) % 26).toNat) ?_, ?_⟩
        · rw [abc_codes, List.getElem?_range' (by omega)]; simp
        · exact hR H2 (Same.refl _)
      · intro D H2 hD s2 h2
        refine ⟨(Mk.alpha c).map fun x => tx [x], .of ?_, ?_, ?_⟩
        · rw [h2]
          unfold Mk.alpha Mk.ofN
          rw [List.map_map, List.map_map, List.map_map]
          rfl
        · rw [List.map_map, List.length_map]
          have e : ((Mk.alpha c).map ((fun x : Str => x.length) ∘ fun x => tx [x])).sum ≤ (Mk.alpha c).length := by
            generalize Mk.alpha c = l
            induction l with
            | nil => exact Nat.le_refl _
            | cons a r ih =>
              rw [List.map_cons, List.sum_cons, List.length_cons]
              show (tx [a]).length + _ ≤ _
              rw [tx_len]
              simp only [List.length_singleton]
              omega
          have e2 : (Str.ofString "").length = 0 := by decide +kernel
          have := Mk.alpha_bounds c
          rw [e2]
          omega
        · rw [empty_tx, join_signs]
          exact k H2 (s1.trans (s1'.trans s2))
    · intro U hU
      and_intros
      refine ⟨⟨by decide, by decide⟩, by decide, ?_⟩
      by_cases h3 : c / 12 % 3 = 0
      · rw [if_pos (decide_eq_true h3)]
        refine ⟨⟨by decide, by decide⟩, by decide, hU _ _ ⟨?_, s0⟩⟩
        unfold Mk.alphaN
        rw [if_pos h3]
      · rw [if_neg (by simp; exact h3)]
        refine hU _ _ ⟨?_, s0⟩
        unfold Mk.alphaN
        rw [if_neg h3]
def sp_law_apart : Sp := fun vs H Q _ => ∃ n m : Int, vs = [.int n, .int m] ∧ 0 ≤ m ∧ Q (.bl (Mk.cop m n)) H
theorem sc_law_apart : FnScope ["_law_number", "_law_m"] ["_law_number", "_law_m"] (defScope s_law_apart) := ⟨rfl, rfl, rfl, by decide +kernel, rfl, by decide +kernel, by decide +kernel⟩
theorem ok_law_apart {f : Addr} {fd : FuncData} (F : Fun K "_law_apart" "_law_apart" s_law_apart f fd) (T : Bl mg) (AF : AdF K mg Ad)  : FnOk P w K mg base (CX1 P w) 1 f fd ["_law_number", "_law_m"] sp_law_apart := by
  refine F.okX (k := 0) sc_law_apart (fun vs H Q E h => ?_) (fun cdv A outer s H vs Q E hr h => ?_)
  · obtain ⟨n, m, rfl, _⟩ := h
    rfl
  · obtain ⟨n, m, rfl, hm, k⟩ := h
    have hu := hr.units0
    have hu1 := hu_of hr
    refine ⟨_, pss_cons (ps_while PassesOwn.leaving (pt_cmpR (op_neK (K := K) rfl hu) (pvL 1) (pe_int) (nomark _)) (pss_one (ps_par (i := 0) (j := 1) rfl sc_law_apart.nd rfl rfl (by decide) rfl rfl (pa_c (pvL 1) (pa_c (pe_op op_modX (pvL 0) (pvL 1)) (pa_nil))) rfl))) (pss_one (ps_ret (pe_cmpR (op_eqK (K := K) rfl hu) (pe_callBG call_absX T.abs bt_abs (pa_c (pvL 0) (pa_nil))) (pe_int) (nomark _)))), ?_⟩
    ac_nf
    refine while_x (fun σ H' => H' = H ∧ ∃ (a b : Int), σ = [some (.int a), some (.int b)] ∧ 0 ≤ b ∧ Int.gcd a b = Int.gcd n m)
      (fun σ _ => match σ with | [_, some (.int b)] => b.toNat | _ => 0) ⟨rfl, n, m, rfl, hm, rfl⟩ ?_
    rintro σ H' ⟨rfl, a, b, rfl, hb, hg⟩
    ac_nf
    by_cases hb0 : b = 0
    · subst hb0
      have e : decide ((a.natAbs : Int) = 1) = Mk.cop m n := by
        unfold Mk.cop
        rw [← hg, Int.gcd_zero]
        by_cases h : a.natAbs = 1
        · rw [decide_eq_true h]; exact decide_eq_true (by omega)
        · rw [decide_eq_false h]; exact decide_eq_false (by omega)
      rw [← e] at k
      exact k
    · have e : (!decide (b = 0)) = true := by simp [hb0]
      rw [if_pos e]
      refine ⟨_, fun _ _ h => h, by omega, ⟨rfl, b, a % b, rfl, Int.emod_nonneg _ hb0, ?_⟩, ?_⟩
      · rw [Mk.gcd_step, hg]
      · show (a % b).toNat < b.toNat
        have h1 : a % b < b := Int.emod_lt_of_pos _ (by omega)
        have h2 : 0 ≤ a % b := Int.emod_nonneg _ hb0
        omega
def sp_law_digits : Sp := fun vs H Q _ => ∃ c m n : Int, vs = [.int c, .int m, .int n] ∧ 0 < m ∧ 0 ≤ n ∧ n ≤ 1000 ∧ ∀ p H', H p = none → Same H H' → H' p = some (.lst ((Mk.digs m n.toNat c).map V.int)) → Q (.ref p) H'
theorem sc_law_digits : FnScope ["_law_number", "_law_m", "_law_many", "_law_found", "_law_k"] ["_law_number", "_law_m", "_law_many"] (defScope s_law_digits) := ⟨rfl, rfl, rfl, by decide +kernel, rfl, by decide +kernel, by decide +kernel⟩
theorem ok_law_digits {f : Addr} {fd : FuncData} (F : Fun K "_law_digits" "_law_digits" s_law_digits f fd) (T : Bl mg) (AF : AdF K mg Ad)  : FnOk P w K mg base (CX1 P w) 1 f fd ["_law_number", "_law_m", "_law_many"] sp_law_digits := by
  refine F.okX (k := 0) sc_law_digits (fun vs H Q E h => ?_) (fun cdv A outer s H vs Q E hr h => ?_)
  · obtain ⟨c, m, n, rfl, _⟩ := h
    rfl
  · obtain ⟨c, m, n, rfl, hm, hn0, hn, k⟩ := h
    have hu := hr.units0
    have hu1 := hu_of hr
    refine ⟨_, pss_cons (ps_setL (i := 3) sc_law_digits.nd (pe_lstX (pa_nil))) (pss_cons (ps_for PassesOwn.leaving rfl (pi_range1G T.range (pa_c (pvL 2) (pa_nil))) (pg_nameL (i := 4) sc_law_digits.nd) (pss_cons (ps_expr (pe_bmG (K := K) rfl PySem.F.plainAttrs_list PySem.F.slot_list_append PySem.F.type_list_append mt_append (pvL 3) (pa_c (pe_op op_modX (pvL 0) (pvL 1)) (pa_nil)))) (pss_one (ps_setL (i := 0) sc_law_digits.nd (pe_op op_fdivX (pvL 0) (pe_int)))))) (pss_one (ps_ret (pvL 3)))), ?_⟩
    ac_nf
    refine ⟨by decide, fun p H0 hp s0 h0 => ?_⟩
    ac_nf
    refine ⟨by omega, by omega, ?_⟩
    refine for_rng (n := n.toNat) (fun i σ H' => ∃ o, σ = [some (.int (c / 31 ^ i)), some (.int m), some (.int n), some (.ref p), o] ∧ Same H H' ∧ H' p = some (.lst ((Mk.digs m i c).map V.int)))
      ?_ ?_ ?_
    · exact ⟨none, by simp, s0, h0⟩
    · rintro i σ H' hi ⟨o, rfl, s1, h1⟩
      ac_nf
      refine ⟨.inl ⟨rfl, _, .of h1⟩, hm, p, _, _, rfl, rfl, h1, ?_, ⟨by decide, by decide⟩, some (.int (0 + (i : Int))), ?_, s1.upd_new hp, ?_⟩
      · rw [List.length_map, Mk.digs_len]; exact small_line (by omega)
      · rw [Int.ediv_ediv_of_nonneg (Int.pow_nonneg (by decide)), ← Int.pow_succ]
      · rw [upd_same, Mk.digs_snoc, List.map_append]; rfl
    · rintro σ H' ⟨o, rfl, s1, h1⟩
      ac_nf
      exact k p H' hp s1 h1
def sp_law_sum : Sp := fun vs H Q _ => ∃ (p : Addr) (ws : List Int) (q : Addr) (ps : List Int), vs = [.ref p, .ref q] ∧ H p = some (.lst (ws.map V.int)) ∧ H q = some (.lst (ps.map V.int)) ∧ ws.length ≤ 100000 ∧ ws.length ≤ ps.length ∧
  Mk.sml ws ∧ Mk.sml ps ∧ Q (.int (Mk.dot ws ps)) H
theorem sc_law_sum : FnScope ["_law_weights_here", "_law_places", "_law_found", "_law_k"] ["_law_weights_here", "_law_places"] (defScope s_law_sum) := ⟨rfl, rfl, rfl, by decide +kernel, rfl, by decide +kernel, by decide +kernel⟩
theorem ok_law_sum {f : Addr} {fd : FuncData} (F : Fun K "_law_sum" "_law_sum" s_law_sum f fd) (T : Bl mg) (AF : AdF K mg Ad)  : FnOk P w K mg base (CX1 P w) 1 f fd ["_law_weights_here", "_law_places"] sp_law_sum := by
  refine F.okX (k := 0) sc_law_sum (fun vs H Q E h => ?_) (fun cdv A outer s H vs Q E hr h => ?_)
  · obtain ⟨p, ws, q, ps, rfl, _⟩ := h
    rfl
  · obtain ⟨p, ws, q, ps, rfl, hp, hq, hl, hlen, hb, hb2, k⟩ := h
    have hu := hr.units0
    have hu1 := hu_of hr
    refine ⟨_, pss_cons (ps_setL (i := 2) sc_law_sum.nd (pe_int)) (pss_cons (ps_for PassesOwn.leaving rfl (pi_range1G T.range (pa_c (pe_callBG (call_lenK (K := K) rfl) T.len bt_len (pa_c (pvL 0) (pa_nil))) (pa_nil))) (pg_nameL (i := 3) sc_law_sum.nd) (pss_one (ps_setL (i := 2) sc_law_sum.nd (pe_op op_addX (pvL 2) (pe_op op_mulX (pe_ix (ix_K (K := K) rfl) (pvL 0) (pvL 3) (fun _ _ => rfl)) (pe_ix (ix_K (K := K) rfl) (pvL 1) (pvL 3) (fun _ _ => rfl))))))) (pss_one (ps_ret (pvL 2)))), ?_⟩
    ac_nf
    refine ⟨_, .l hp, ?_⟩
    rw [List.length_map]
    refine ⟨by omega, by omega, ?_⟩
    refine for_rng (n := ws.length) (fun i σ H' => H' = H ∧ ∃ o, σ = [some (.ref p), some (.ref q), some (.int (Mk.dot (ws.take i) (ps.take i))), o]) ?_ ?_ ?_
    · exact ⟨rfl, none, by simp [Mk.dot]⟩
    · rintro i σ H' hi ⟨rfl, o, rfl⟩
      have e1 : atI (ws.map V.int) (0 + (i : Int)) = some (.int ws[i]) := by
        rw [Int.zero_add]; exact atI_nat (by rw [List.getElem?_map, List.getElem?_eq_getElem hi]; rfl)
      have e2 : atI (ps.map V.int) (0 + (i : Int)) = some (.int (ps[i]'(by omega))) := by
        rw [Int.zero_add]; exact atI_nat (by rw [List.getElem?_map, List.getElem?_eq_getElem (by omega)]; rfl)
      ac_nf
      refine ⟨_, _, .l hp, e1, _, _, .l hq, e2, ?_⟩
      ac_nf
      refine ⟨cbig_small (hb _ (List.getElem_mem _)) (hb2 _ (List.getElem_mem _)), trivial, some (.int (0 + (i : Int))), ?_⟩
      rw [Mk.dot_step hi (by omega)]
    · rintro σ H' ⟨rfl, o, rfl⟩
      ac_nf
      rw [List.take_of_length_le (Nat.le_refl _), Mk.dot_take ws ps hlen]
      exact k
def sp_law_common : Sp := fun vs H Q _ => ∃ (p : Addr) (ws : List Int) (m : Int), vs = [.ref p, .int m] ∧ H p = some (.lst (ws.map V.int)) ∧ (∀ w ∈ ws, 0 ≤ w) ∧ 0 ≤ m ∧ Q (.int (Mk.gAll m ws)) H
theorem gAll_nn : ∀ (ws : List Int) (g : Int), 0 ≤ g → 0 ≤ Mk.gAll g ws
  | [], g, h => h
  | w :: ws, g, _ => gAll_nn ws ((Int.gcd g w : Nat) : Int) (Int.natCast_nonneg _)
theorem gAll_snoc (ws : List Int) (g w : Int) : Mk.gAll g (ws ++ [w]) = ((Int.gcd (Mk.gAll g ws) w : Nat) : Int) := by unfold Mk.gAll; rw [List.foldl_append]; rfl
theorem sc_law_common : FnScope ["_law_weights_here", "_law_m", "_law_weight"] ["_law_weights_here", "_law_m"] (defScope s_law_common) := ⟨rfl, rfl, rfl, by decide +kernel, rfl, by decide +kernel, by decide +kernel⟩
theorem ok_law_common {f : Addr} {fd : FuncData} (F : Fun K "_law_common" "_law_common" s_law_common f fd) (T : Bl mg) (AF : AdF K mg Ad)  : FnOk P w K mg base (CX1 P w) 1 f fd ["_law_weights_here", "_law_m"] sp_law_common := by
  refine F.okX (k := 0) sc_law_common (fun vs H Q E h => ?_) (fun cdv A outer s H vs Q E hr h => ?_)
  · obtain ⟨p, ws, m, rfl, _⟩ := h
    rfl
  · obtain ⟨p, ws, m, rfl, hp, hw, hm, k⟩ := h
    have hu := hr.units0
    have hu1 := hu_of hr
    refine ⟨_, pss_cons (ps_for PassesOwn.leaving rfl (pi_seqK (K := K) rfl (pvL 0)) (pg_nameL (i := 2) sc_law_common.nd) (pss_one (ps_while PassesOwn.leaving (pt_cmpR (op_neK (K := K) rfl hu) (pvL 2) (pe_int) (nomark _)) (pss_one (ps_par (i := 1) (j := 2) rfl sc_law_common.nd rfl rfl (by decide) rfl rfl (pa_c (pvL 2) (pa_c (pe_op op_modX (pvL 1) (pvL 2)) (pa_nil))) rfl))))) (pss_one (ps_ret (pvL 1))), ?_⟩
    refine seq_go fun nn hN => ?_
    and_intros
    refine .inl ⟨⟨_, .of hp⟩, ?_⟩
    refine for_lstO (xs := ws.map V.int) (fun i σ H' => H' = H ∧ ∃ o, σ = [some (.ref p), some (.int (Mk.gAll m (ws.take i))), o]) ?_ ?_ ?_ ?_
    · exact ⟨rfl, none, rfl⟩
    · rintro i σ H' _ ⟨rfl, _⟩
      exact .of hp
    · rintro i x σ H' hx ⟨rfl, o, rfl⟩ N hNx
      clear hN
      obtain ⟨w, hwi, rfl⟩ : ∃ w, ws[i]? = some w ∧ x = V.int w := by
        rw [List.getElem?_map] at hx
        cases e : ws[i]? with
        | none => rw [e] at hx; cases hx
        | some w => rw [e] at hx; cases hx; exact ⟨w, rfl, rfl⟩
      have hw0 := hw w (List.mem_of_getElem? hwi)
      have hg0 := gAll_nn (ws.take i) m hm
      have hsn : Mk.gAll m (ws.take (i + 1)) = ((Int.gcd (Mk.gAll m (ws.take i)) w : Nat) : Int) := by
        rw [List.take_add_one, hwi]
        exact gAll_snoc _ _ _
      rw [hsn] at hNx
      generalize Mk.gAll m (ws.take i) = g at hg0 hNx
      and_intros
      refine while_x (fun σ H2 => H2 = H' ∧ ∃ (a b : Int), σ = [some (.ref p), some (.int a), some (.int b)] ∧ 0 ≤ a ∧ 0 ≤ b ∧ Int.gcd a b = Int.gcd g w)
        (fun σ _ => match σ with | [_, _, some (.int b)] => b.toNat | _ => 0) ⟨rfl, g, w, rfl, hg0, hw0, rfl⟩ ?_
      rintro σ H2 ⟨rfl, a, b, rfl, ha, hb, hg⟩
      ac_nf
      by_cases hb0 : b = 0
      · subst hb0
        refine hNx _ _ ⟨rfl, some (.int 0), ?_⟩
        rw [← hg, Int.gcd_zero, Int.natAbs_of_nonneg ha]
      · have e : (!decide (b = 0)) = true := by simp [hb0]
        rw [if_pos e]
        refine ⟨_, fun _ _ h => h, by omega, ⟨rfl, b, a % b, rfl, hb, Int.emod_nonneg _ hb0, ?_⟩, ?_⟩
        · rw [Mk.gcd_step, hg]
        · show (a % b).toNat < b.toNat
          have h1 : a % b < b := Int.emod_lt_of_pos _ (by omega)
          have h2 : 0 ≤ a % b := Int.emod_nonneg _ hb0
          omega
    · rintro σ H' ⟨rfl, o, rfl⟩
      show nn _ _ _
      rw [hN]
      and_intros
      rw [List.length_map, List.take_of_length_le (Nat.le_refl _)]
      exact k
def sp_law_one_fault : Sp := fun vs H Q _ => ∃ (al : List Nat) (ps qs : List Int), vs = [.str (tx (Mk.spell al ps)), .str (tx (Mk.spell al qs))] ∧ al.Nodup ∧ al.length ≤ 26 ∧ okPs al.length ps.length ps ∧ okPs al.length ps.length qs ∧ ps.length ≤ 8 ∧ Fault1 ps qs ∧ ∀ H', Same H H' → Q (.bl true) H'
theorem sc_law_one_fault : FnScope ["_law_one", "_law_other", "_law_unlike"] ["_law_one", "_law_other"] (defScope s_law_one_fault) := ⟨rfl, rfl, rfl, by decide +kernel, rfl, by decide +kernel, by decide +kernel⟩
theorem ok_law_one_fault {f : Addr} {fd : FuncData} (F : Fun K "_law_one_fault" "_law_one_fault" s_law_one_fault f fd) (T : Bl mg) (AF : AdF K mg Ad)  : FnOk P w K mg base (CX1 P w) 1 f fd ["_law_one", "_law_other"] sp_law_one_fault := by
  refine F.okX (k := 0) sc_law_one_fault (fun vs H Q E h => ?_) (fun cdv A outer s H vs Q E hr h => ?_)
  · obtain ⟨al, ps, qs, rfl, _⟩ := h
    rfl
  · obtain ⟨al, ps, qs, rfl, nd, g26, okp, okq, hl8, hF, k⟩ := h
    have hu := hr.units0
    have hu1 := hu_of hr
    refine ⟨_, pss_cons (ps_setLC (i := 2) ["_law_k"] sc_law_one_fault.nd rfl (Or.inl rfl) rfl ⟨rfl, by decide +kernel, rfl, by decide +kernel⟩ (.cons (j := 0) rfl (.inl (by kernel_rfl)) (.cons (j := 1) rfl (.inl (by kernel_rfl)) (.nil))) (by decide +kernel) (pi_range1G T.range (pa_c (pe_callBG (call_lenK (K := K) rfl) T.len bt_len (pa_c (pvC 0) (pa_nil))) (pa_nil))) (fun _ _ _ _ => pg_nameL (i := 0) (show (["_law_k", "_law_one", "_law_other"] : List Str).Nodup from by decide +kernel)) (fun _ _ _ _ => pif_one (pt_cmpR (op_neK (K := K) rfl hu) (pe_ix (ix_K (K := K) rfl) (pvC 1) (pvL 0) (fun _ _ => rfl)) (pe_ix (ix_K (K := K) rfl) (pvC 2) (pvL 0) (fun _ _ => rfl)) (nomark _))) (fun _ _ _ _ => pvL 0)) (pss_cons (ps_if (pt_cmpR (op_eqK (K := K) rfl hu) (pe_callBG (call_lenK (K := K) rfl) T.len bt_len (pa_c (pvL 2) (pa_nil))) (pe_int) (nomark _)) (pss_one (ps_ret (pe_bl))) (pss_nil)) (pss_cons (ps_if ((pw_or (pt_cmpR (op_neK (K := K) rfl hu) (pe_callBG (call_lenK (K := K) rfl) T.len bt_len (pa_c (pvL 2) (pa_nil))) (pe_int) (nomark _)) (pw_or1 (pt_cmpR (op_neK (K := K) rfl hu) (pe_ix (ix_K (K := K) rfl) (pvL 2) (pe_int) (fun _ _ => rfl)) (pe_op op_addX (pe_ix (ix_K (K := K) rfl) (pvL 2) (pe_int) (fun _ _ => rfl)) (pe_int)) (nomark _)))).pt) (pss_one (ps_ret (pe_bl))) (pss_nil)) (pss_one (ps_ret (pe_and (pe_cmpR (op_eqK (K := K) rfl hu) (pe_ix (ix_K (K := K) rfl) (pvC 0) (pe_ix (ix_K (K := K) rfl) (pvL 2) (pe_int) (fun _ _ => rfl)) (fun _ _ => rfl)) (pe_ix (ix_K (K := K) rfl) (pvC 1) (pe_ix (ix_K (K := K) rfl) (pvL 2) (pe_int) (fun _ _ => rfl)) (fun _ _ => rfl)) (nomark _)) (pe_one (pe_cmpR (op_eqK (K := K) rfl hu) (pe_ix (ix_K (K := K) rfl) (pvC 0) (pe_ix (ix_K (K := K) rfl) (pvL 2) (pe_int) (fun _ _ => rfl)) (fun _ _ => rfl)) (pe_ix (ix_K (K := K) rfl) (pvC 1) (pe_ix (ix_K (K := K) rfl) (pvL 2) (pe_int) (fun _ _ => rfl)) (fun _ _ => rfl)) (nomark _)))))))), ?_⟩
    have big : ∀ {u : Nat}, u ≤ 1000 → u ≤ sizeLine := fun hu => Nat.le_of_lt (small_line (by omega))
    have hs1 := Mk.spell_len al ps
    have hs2 := Mk.spell_len al qs
    have hql := okq.1
    have wat : ∀ (rs : List Int) (i : Nat) (hi : i < rs.length), (Mk.spell al rs)[i]? = some (al.getD rs[i].toNat 0) := fun rs i hi => by
      unfold Mk.spell; rw [List.getElem?_map, List.getElem?_eq_getElem hi]; rfl
    have sg : ∀ c : Nat, (⟨#[c]⟩ : Str) = tx [c] := fun _ => rfl
    have same1 : ∀ x y : Int, 0 ≤ x ∧ x < (al.length : Int) → 0 ≤ y ∧ y < (al.length : Int) → (([al.getD x.toNat 0] : List Nat) = [al.getD y.toNat 0] ↔ x = y) := fun x y hx hy => ⟨fun h => by
      have h1 := congrArg (fun l : List Nat => l.headD 0) h
      have h2 : al.getD x.toNat 0 = al.getD y.toNat 0 := h1
      have a1 := Mk.idxOf_get nd (Mk.getD_at hx)
      have a2 := Mk.idxOf_get nd (Mk.getD_at hy)
      rw [h2, a2] at a1
      omega, fun h => by rw [h]⟩
    obtain ⟨U, hU, hfilter⟩ : ∃ U : List Int, U = (Mk.ofN ps.length).filter (fun x => !decide (ps.getD x.toNat 0 = qs.getD x.toNat 0)) ∧ ((∃ a : Nat, U = [(a : Int)]) ∨ ∃ (a : Nat) (x y : Int), U = [(a : Int), (a : Int) + 1] ∧ ps[a]? = some x ∧ ps[a + 1]? = some y ∧ qs[a]? = some y ∧ qs[a + 1]? = some x) := by
      refine ⟨_, rfl, ?_⟩
      rcases hF with ⟨a, p, x, hp, hne, rfl⟩ | ⟨a, p, q, hp, hq, hne, rfl⟩
      · have hap := (List.getElem?_eq_some_iff.mp hp).1
        refine .inl ⟨a, Mk.filter_one (Mk.ofN_nodup _) (Mk.mem_ofN.mpr ⟨by omega, by omega⟩) fun y hy => ?_⟩
        have hyb := Mk.mem_ofN.mp hy
        obtain ⟨j, rfl⟩ := Int.eq_ofNat_of_zero_le hyb.1
        rw [Int.toNat_natCast, List.getD_eq_getElem?_getD, List.getD_eq_getElem?_getD]
        by_cases e : a = j
        · subst e
          rw [hp, List.getElem?_set_self hap]
          simp only [Option.getD_some, Bool.not_eq_true', decide_eq_false_iff_not]
          exact ⟨fun _ => trivial, fun _ h => hne h.symm⟩
        · rw [List.getElem?_set_ne e]
          simp only [decide_true, Bool.not_true, Bool.false_eq_true, false_iff]
          omega
      · have haq := (List.getElem?_eq_some_iff.mp hq).1
        refine .inr ⟨a, p, q, ?_, hp, hq, by rw [List.getElem?_set_ne (by omega), List.getElem?_set_self (by omega)], by rw [List.getElem?_set_self (by rw [List.length_set]; omega)]⟩
        have key : ∀ n : Nat, (Mk.ofN n).filter (fun y => decide (y = (a : Int) ∨ y = (a : Int) + 1)) = if n ≤ a then [] else if n = a + 1 then [(a : Int)] else [(a : Int), (a : Int) + 1] := by
          intro n
          induction n with
          | zero => rw [if_pos (Nat.zero_le _)]; rfl
          | succ n ih =>
            have eo : Mk.ofN (n + 1) = Mk.ofN n ++ [(n : Int)] := by unfold Mk.ofN; rw [List.range_succ, List.map_append]; rfl
            rw [eo, List.filter_append, ih]
            by_cases c1 : n < a
            · rw [if_pos (by omega), if_pos (by omega), List.filter_cons, if_neg (by rw [decide_eq_true_eq]; omega)]; rfl
            · by_cases c2 : n = a
              · rw [if_pos (by omega), if_neg (by omega), if_pos (by omega), List.filter_cons, if_pos (decide_eq_true (by omega)), c2]; rfl
              · by_cases c3 : n = a + 1
                · rw [if_neg (by omega), if_pos c3, if_neg (by omega), if_neg (by omega), List.filter_cons, if_pos (decide_eq_true (by omega)), c3]; rfl
                · rw [if_neg (by omega), if_neg c3, if_neg (by omega), if_neg (by omega), List.filter_cons, if_neg (by rw [decide_eq_true_eq]; omega)]; rfl
        have hk := key ps.length
        rw [if_neg (by omega), if_neg (by omega)] at hk
        rw [← hk]
        refine List.filter_congr fun y hy => ?_
        have hyb := Mk.mem_ofN.mp hy
        obtain ⟨j, rfl⟩ := Int.eq_ofNat_of_zero_le hyb.1
        rw [Int.toNat_natCast, List.getD_eq_getElem?_getD, List.getD_eq_getElem?_getD]
        by_cases e1 : a + 1 = j
        · subst e1
          rw [hq, List.getElem?_set_self (by rw [List.length_set]; omega)]
          rw [decide_eq_true (show (((a + 1 : Nat) : Int) = (a : Int) ∨ ((a + 1 : Nat) : Int) = (a : Int) + 1) from .inr rfl)]
          simp only [Option.getD_some]
          rw [decide_eq_false (fun h => hne h.symm)]; rfl
        · by_cases e2 : a = j
          · subst e2
            rw [hp, List.getElem?_set_ne e1, List.getElem?_set_self (by omega)]
            rw [decide_eq_true (show ((a : Int) = (a : Int) ∨ (a : Int) = (a : Int) + 1) from .inl rfl)]
            simp only [Option.getD_some]
            rw [decide_eq_false hne]; rfl
          · rw [List.getElem?_set_ne e1, List.getElem?_set_ne e2, decide_eq_true rfl]
            rw [decide_eq_false (show ¬ (((j : Nat) : Int) = (a : Int) ∨ ((j : Nat) : Int) = (a : Int) + 1) by omega)]; rfl
    refine seq_go fun nn hN => ?_
    and_intros
    rw [tx_len, hs1]
    refine ⟨big (by omega), by omega, by omega, ?_⟩
    refine lc_A V.int inj_int (seq_ofN ps.length) (by rw [Mk.ofN_len]; exact small_line (by omega)) (fun x => !decide (ps.getD x.toNat 0 = qs.getD x.toNat 0)) V.int ?_ ?_ ?_
    · intro x hx H2 s2 R hR
      have hxb := Mk.mem_ofN.mp hx
      obtain ⟨j, rfl⟩ := Int.eq_ofNat_of_zero_le hxb.1
      have hj : j < ps.length := by omega
      have hj2 : j < qs.length := by omega
      ac_nf
      refine ⟨by rw [tx_len]; exact big (by omega), _, atI_nat (by rw [tx_cps]; exact wat ps j hj), by rw [tx_len]; exact big (by omega), _, atI_nat (by rw [tx_cps]; exact wat qs j hj2), ?_⟩
      rw [sg, sg, tx_dec]
      have e : decide (([al.getD ps[j].toNat 0] : List Nat) = [al.getD qs[j].toNat 0]) = decide (ps.getD ((j : Int)).toNat 0 = qs.getD ((j : Int)).toNat 0) := by
        refine decide_eq_decide.mpr ?_
        have g1 : ps.getD j 0 = ps[j] := by rw [List.getD_eq_getElem?_getD, List.getElem?_eq_getElem hj]; rfl
        have g2 : qs.getD j 0 = qs[j] := by rw [List.getD_eq_getElem?_getD, List.getElem?_eq_getElem hj2]; rfl
        rw [Int.toNat_natCast, g1, g2]
        exact same1 _ _ (okp.2 _ (List.getElem_mem hj)) (okq.2 _ (List.getElem_mem hj2))
      rw [e]
      exact hR H2 (Same.refl _)
    · intro x hx _ H2 s2 R hR
      ac_nf
      exact hR H2 (Same.refl _)
    intro D H2 hD s2 h2
    rw [← hU] at h2
    rw [hN]
    clear hN nn
    rcases hfilter with ⟨a, rfl⟩ | ⟨a, x, y, rfl, p1, p2, q1, q2⟩
    · refine seq_go fun nn hN => ?_
      and_intros
      refine ⟨_, .l h2, ?_⟩
      rw [if_pos (by rfl)]
      exact k H2 s2
    · have h2' : H2 D = some (.lst [.int (a : Int), .int ((a : Int) + 1)]) := h2
      have c0 : atI [V.int (a : Int), V.int ((a : Int) + 1)] 0 = some (.int (a : Int)) := atI_nat (xs := [V.int (a : Int), V.int ((a : Int) + 1)]) (j := 0) rfl
      have c1 : atI [V.int (a : Int), V.int ((a : Int) + 1)] 1 = some (.int ((a : Int) + 1)) := atI_nat (xs := [V.int (a : Int), V.int ((a : Int) + 1)]) (j := 1) rfl
      have ea : (a : Int) + 1 = ((a + 1 : Nat) : Int) := rfl
      have b1 := (List.getElem?_eq_some_iff.mp p2).1
      have b2 := (List.getElem?_eq_some_iff.mp q2).1
      have w1 : ∀ {rs : List Int} {i : Nat} {z : Int}, rs[i]? = some z → (Mk.spell al rs)[i]? = some (al.getD z.toNat 0) := fun {rs i z} h => by
        unfold Mk.spell; rw [List.getElem?_map, h]; rfl
      refine seq_go fun nn hN => ?_
      and_intros
      refine ⟨_, .l h2', ?_⟩
      rw [if_neg (show ¬ decide ((([V.int (a : Int), V.int ((a : Int) + 1)].length : Nat) : Int) = 1) = true from by show ¬ decide (((2 : Nat) : Int) = 1) = true; decide), hN]
      clear hN nn
      refine seq_go fun nn hN => ?_
      and_intros
      refine ⟨_, .l h2', ?_⟩
      rw [if_neg (show ¬ (!decide ((([V.int (a : Int), V.int ((a : Int) + 1)].length : Nat) : Int) = 2)) = true from by show ¬ (!decide (((2 : Nat) : Int) = 2)) = true; decide)]
      refine ⟨_, _, .l h2', c1, _, _, .l h2', c0, ?_⟩
      and_intros
      rw [if_neg (by simp), hN]
      clear hN nn
      and_intros
      refine ⟨_, _, .l h2', c0, ?_⟩
      and_intros
      have lz : (tx (Mk.spell al ps)).length ≤ sizeLine := by rw [tx_len]; exact big (by omega)
      have lz2 : (tx (Mk.spell al qs)).length ≤ sizeLine := by rw [tx_len]; exact big (by omega)
      refine ⟨lz, _, atI_nat (by rw [tx_cps]; exact w1 p1), _, _, .l h2', c1, ?_⟩
      and_intros
      rw [ea]
      refine ⟨lz2, _, atI_nat (by rw [tx_cps]; exact w1 q2), ?_⟩
      and_intros
      rw [if_pos (by simp)]
      refine ⟨_, _, .l h2', c1, ?_⟩
      and_intros
      rw [ea]
      refine ⟨lz, _, atI_nat (by rw [tx_cps]; exact w1 p2), _, _, .l h2', c0, ?_⟩
      and_intros
      refine ⟨lz2, _, atI_nat (by rw [tx_cps]; exact w1 q1), ?_⟩
      and_intros
      simp only [decide_true]
      exact k H2 s2
def sp_pair_by_exchange : Sp := fun vs H Q _ => ∃ (m : Int) (pw : Addr) (ws : List Int) (q : Addr) (ps : List Int), vs = [.int m, .ref pw, .ref q] ∧ 1 ≤ m ∧ m ≤ 26 ∧ H pw = some (.lst (ws.map V.int)) ∧ H q = some (.lst (ps.map V.int)) ∧ ws.length = ps.length ∧ ps.length ≤ 8 ∧
  (∀ (at_ : Nat) w p t q2 H', ws[at_]? = some w → ps[at_]? = some p → 1 < Int.gcd w m → Same H H' → H' t = some (.tup [.ref q, .ref q2]) → H' q2 = some (.lst ((ps.set at_ ((p + m / ((Int.gcd w m : Nat) : Int)) % m)).map V.int)) → Q (.ref t) H') ∧ (∀ H', Same H H' → (∀ w ∈ ws, Int.gcd w m ≤ 1) → Q .non H')
theorem sc_pair_by_exchange : FnScope ["m", "weights", "places", "at", "weight", "divisor", "other"] ["m", "weights", "places"] (defScope s_pair_by_exchange) := ⟨rfl, rfl, rfl, by decide +kernel, rfl, by decide +kernel, by decide +kernel⟩
theorem ok_pair_by_exchange {f : Addr} {fd : FuncData} (F : Fun K "pair_by_exchange" "pair_by_exchange" s_pair_by_exchange f fd) (T : Bl mg) (AF : AdF K mg Ad) (C_common_divisor : Fnc P w K mg base (CX1 P w) 1 "common_divisor" ["one", "other"] sp_common_divisor) : FnOk P w K mg base (CX1 P w) 2 f fd ["m", "weights", "places"] sp_pair_by_exchange := by
  refine F.okX (k := 1) sc_pair_by_exchange (fun vs H Q E h => ?_) (fun cdv A outer s H vs Q E hr h => ?_)
  · obtain ⟨m, pw, ws, q, ps, rfl, _⟩ := h
    rfl
  · obtain ⟨m, pw, ws, q, ps, rfl, hm1, hm26, hw, hq, hl, hl8, k1, k2⟩ := h
    have hu := hr.units0
    have hu1 := hu_of hr
    refine ⟨_, pss_cons (ps_for PassesOwn.leaving rfl (pi_enumG (K := K) rfl T.enumerate (pa_c (pvL 1) (pa_nil))) (pg_tupK (K := K) (n := 2) rfl rfl (pgs_cons (pg_nameL (i := 3) sc_pair_by_exchange.nd) (pgs_cons (pg_nameL (i := 4) sc_pair_by_exchange.nd) (pgs_nil)))) (pss_cons (ps_setL (i := 5) sc_pair_by_exchange.nd (pe_callG C_common_divisor pass_def (hr.mono (by decide)) (pa_c (pvL 4) (pa_c (pvL 0) (pa_nil))))) (pss_one (ps_if (pt_cmpR op_gtX (pvL 5) (pe_int) (nomark _)) (pss_cons (ps_setL (i := 6) sc_pair_by_exchange.nd (pe_callTyG (call_listK (K := K) rfl rfl) T.list bt_list (pa_c (pvL 2) (pa_nil)))) (pss_cons (ps_asg (pe_op op_modX (pe_op op_addX (pe_ix (ix_K (K := K) rfl) (pvL 2) (pvL 3) (fun _ _ => rfl)) (pe_op op_fdivX (pvL 0) (pvL 5))) (pvL 0)) (pg_sub (pvL 6) (pvL 3) set_list)) (pss_one (ps_ret (pe_tupX (pa_c (pvL 2) (pa_c (pvL 6) (pa_nil)))))))) (pss_nil))))) (pss_one (ps_ret (pe_non))), ?_⟩
    have big : ∀ {u : Nat}, u ≤ 1000 → u ≤ sizeLine := fun hu => Nat.le_of_lt (small_line (by omega))
    refine seq_go fun nn hN => ?_
    and_intros
    refine ⟨pw, rfl, ⟨_, .of hw⟩, ?_⟩
    refine for_enumO (xs := ws.map V.int) (fun i σ H' => (∃ o3 o4 o5 o6, σ = [some (.int m), some (.ref pw), some (.ref q), o3, o4, o5, o6]) ∧ Same H H' ∧ ∀ (j : Nat) w, j < i → ws[j]? = some w → Int.gcd w m ≤ 1) ?_ ?_ ?_ ?_
    · exact ⟨⟨_, _, _, _, rfl⟩, Same.refl _, fun j _ h => absurd h (Nat.not_lt_zero j)⟩
    · rintro i σ H' _ ⟨_, s, _⟩
      exact .of (s _ _ hw)
    · rintro i x σ A1 hx ⟨⟨o3, o4, o5, o6, rfl⟩, sA, hg⟩ N hNx p A2 zp s2 h2
      clear hN
      obtain ⟨w, hwi, rfl⟩ : ∃ w, ws[i]? = some w ∧ x = V.int w := by
        rw [List.getElem?_map] at hx
        cases e : ws[i]? with
        | none => rw [e] at hx; cases hx
        | some w => rw [e] at hx; cases hx; exact ⟨w, rfl, rfl⟩
      have hip : i < ps.length := by have := (List.getElem?_eq_some_iff.mp hwi).1; omega
      have hpi : ps[i]? = some ps[i] := List.getElem?_eq_getElem hip
      refine ⟨p, _, rfl, .of h2, rfl, ?_⟩
      and_intros
      refine seq_go fun n2 hM => ?_
      and_intros
      refine ⟨w, m, rfl, ?_⟩
      rw [hM]
      clear hM n2
      and_intros
      by_cases hd : 1 < Int.gcd w m
      · rw [if_pos (decide_eq_true (by omega))]
        refine seq_go fun n2 hM => ?_
        and_intros
        have sA2 := sA.trans s2
        refine ⟨_, .inl (.l (sA2 _ _ hq)), fun q2 A3 z3 s3 h3 => ?_⟩
        rw [hM]
        clear hM n2
        refine seq_go fun n2 hM => ?_
        and_intros
        have hgm : ((Int.gcd w m : Nat) : Int) ≤ m := by
          have h := Int.gcd_dvd_right (a := w) (b := m)
          exact Int.le_of_dvd (by omega) h
        refine ⟨_, _, .l (s3 _ _ (sA2 _ _ hq)), atI_nat (by rw [List.getElem?_map, hpi]; rfl), ⟨by omega, Int.lt_of_le_of_lt hgm (Int.lt_of_le_of_lt hm26 (by decide))⟩, ?_⟩
        and_intros
        refine ⟨by omega, ?_⟩
        refine ⟨q2, _, (i : Int), i, rfl, rfl, h3, ixN_nat (by rw [List.length_map]; exact hip), ?_⟩
        have hqq : q ≠ q2 := fun e => by rw [← e, sA2 _ _ hq] at z3; cases z3
        have sU : Same A2 (upd A3 q2 (.lst ((ps.map V.int).set i (.int ((ps[i] + m / ((Int.gcd w m : Nat) : Int)) % m))))) := fun c o e => by
          rw [upd_ne (fun e2 => by rw [e2, z3] at e; cases e)]; exact s3 _ _ e
        rw [hM]
        clear hM n2
        and_intros
        refine ⟨big (by decide), fun tt A4 z4 s4 h4 => k1 i w ps[i] tt q2 A4 hwi hpi hd (sA2.trans (sU.trans s4)) h4 (s4 _ _ ?_)⟩
        rw [upd_same, List.map_set]
      · rw [if_neg (by rw [decide_eq_true_eq]; omega)]
        refine hNx _ _ ⟨⟨_, _, _, _, rfl⟩, sA.trans s2, fun j w' hj hw' => ?_⟩
        rcases Nat.lt_or_ge j i with h | h
        · exact hg j w' h hw'
        · have : j = i := by omega
          subst this
          rw [hwi] at hw'
          cases hw'
          omega
    · rintro σ H' ⟨⟨o3, o4, o5, o6, rfl⟩, s, hg⟩
      show nn _ _ _
      rw [hN]
      and_intros
      refine k2 H' s fun w hw' => ?_
      obtain ⟨j, hj⟩ := List.getElem?_of_mem hw'
      rw [List.length_map] at hg
      exact hg j w (List.getElem?_eq_some_iff.mp hj).1 hj
/-- two neighbours fixed -/
def fx2 (a : Nat) (lo hi : Int) : Nat → Option Int := fun i => if i = a then some lo else if i = a + 1 then some hi else none
def sp_pair_by_swap : Sp := fun vs H Q _ => ∃ (m : Int) (pw : Addr) (ws : List Int) (r : Int), vs = [.int m, .ref pw, .int r] ∧ 1 ≤ m ∧ m ≤ 26 ∧ H pw = some (.lst (ws.map V.int)) ∧ 1 ≤ ws.length ∧ ws.length ≤ 8 ∧ Mk.sml ws ∧
  (∀ (a : Nat) w v (lo hi c : Int) q ps t q2 H', ws[a]? = some w → ws[a + 1]? = some v → 1 < Int.gcd (w - v) m → 0 ≤ lo → lo < hi → hi < m → hi - lo = c * (m / ((Int.gcd (w - v) m : Nat) : Int)) → PL m (fx2 a lo hi) ws.length ps → (Mk.dot ws ps - r) % m = 0 → Same H H' → H' q = some (.lst (ps.map V.int)) → H' t = some (.tup [.ref q, .ref q2]) → H' q2 = some (.lst ((ps.take a ++ ([hi, lo] ++ ps.drop (a + 2))).map V.int)) → Q (.ref t) H') ∧
  (∀ H', Same H H' → (∀ (a : Nat) w v, ws[a]? = some w → ws[a + 1]? = some v → 1 < Int.gcd (w - v) m → ∀ ps, PL m (fx2 a 0 (m / ((Int.gcd (w - v) m : Nat) : Int))) ws.length ps → (Mk.dot ws ps - r) % m ≠ 0) → Q .non H')
theorem sc_pair_by_swap : FnScope ["m", "weights", "rest", "at", "step", "low", "high", "places"] ["m", "weights", "rest"] (defScope s_pair_by_swap) := ⟨rfl, rfl, rfl, by decide +kernel, rfl, by decide +kernel, by decide +kernel⟩
theorem ok_pair_by_swap {f : Addr} {fd : FuncData} (F : Fun K "pair_by_swap" "pair_by_swap" s_pair_by_swap f fd) (T : Bl mg) (AF : AdF K mg Ad) (C_good_places : Fnc P w K mg base (CX1 P w) 1 "good_places" ["m", "weights", "rest", "fixed"] sp_good_places) (C_common_divisor : Fnc P w K mg base (CX1 P w) 1 "common_divisor" ["one", "other"] sp_common_divisor) : FnOk P w K mg base (CX1 P w) 2 f fd ["m", "weights", "rest"] sp_pair_by_swap := by
  refine F.okX (k := 1) sc_pair_by_swap (fun vs H Q E h => ?_) (fun cdv A outer s H vs Q E hr h => ?_)
  · obtain ⟨m, pw, ws, r, rfl, _⟩ := h
    rfl
  · obtain ⟨m, pw, ws, r, rfl, hm1, hm26, hw, hl1, hl8, hws, k1, k2⟩ := h
    have hu := hr.units0
    have hu1 := hu_of hr
    refine ⟨_, pss_cons (ps_for PassesOwn.leaving rfl (pi_range1G T.range (pa_c (pe_op op_subX (pe_callBG (call_lenK (K := K) rfl) T.len bt_len (pa_c (pvL 1) (pa_nil))) (pe_int)) (pa_nil))) (pg_nameL (i := 3) sc_pair_by_swap.nd) (pss_cons (ps_setL (i := 4) sc_pair_by_swap.nd (pe_op op_fdivX (pvL 0) (pe_callG C_common_divisor pass_def (hr.mono (by decide)) (pa_c (pe_op op_subX (pe_ix (ix_K (K := K) rfl) (pvL 1) (pvL 3) (fun _ _ => rfl)) (pe_ix (ix_K (K := K) rfl) (pvL 1) (pe_op op_addX (pvL 3) (pe_int)) (fun _ _ => rfl))) (pa_c (pvL 0) (pa_nil)))))) (pss_one (ps_for PassesOwn.leaving rfl (pi_range1G T.range (pa_c (pvL 0) (pa_nil))) (pg_nameL (i := 5) sc_pair_by_swap.nd) (pss_one (ps_for PassesOwn.leaving rfl (pi_range3G T.range (pa_c (pe_op op_addX (pvL 5) (pvL 4)) (pa_c (pvL 0) (pa_c (pvL 4) (pa_nil))))) (pg_nameL (i := 6) sc_pair_by_swap.nd) (pss_cons (ps_setL (i := 7) sc_pair_by_swap.nd (pe_callG C_good_places pass_def (hr.mono (by decide)) (pa_c (pvL 0) (pa_c (pvL 1) (pa_c (pvL 2) (pa_c (pe_dispX (pps_cons (pvL 3) (pvL 5) (pps_cons (pe_op op_addX (pvL 3) (pe_int)) (pvL 6) (pps_nil))) rfl rfl (fun e => nomatch e) (Nat.le_of_ble_eq_true rfl)) (pa_nil))))))) (pss_one (ps_if (pt_cmpR op_isnotX (pvL 7) (pe_non) (nomark _)) (pss_one (ps_ret (pe_tupX (pa_c (pvL 7) (pa_c (pe_op op_addX (pe_op op_addX (pe_slice (sl_YK (K := K) rfl) (pvL 7) (po_none) (po_some (pvL 3))) (pe_lstX (pa_c (pvL 6) (pa_c (pvL 5) (pa_nil))))) (pe_slice (sl_YK (K := K) rfl) (pvL 7) (po_some (pe_op op_addX (pvL 3) (pe_int))) (po_none))) (pa_nil)))))) (pss_nil)))))))))) (pss_one (ps_ret (pe_non))), ?_⟩
    have big : ∀ {u : Nat}, u ≤ 1000 → u ≤ sizeLine := fun hu => Nat.le_of_lt (small_line (by omega))
    refine seq_go fun nn hN => ?_
    and_intros
    refine ⟨_, .l hw, ?_⟩
    rw [List.length_map]
    refine ⟨by omega, by omega, ?_⟩
    rw [show ((ws.length : Int) - 1).toNat = ws.length - 1 by omega]
    refine for_rngO (n := ws.length - 1) (fun i σ H' => (∃ o3 o4 o5 o6 o7, σ = [some (.int m), some (.ref pw), some (.int r), o3, o4, o5, o6, o7]) ∧ Same H H' ∧ ∀ (a : Nat) w v, a < i → ws[a]? = some w → ws[a + 1]? = some v → 1 < Int.gcd (w - v) m → ∀ ps, PL m (fx2 a 0 (m / ((Int.gcd (w - v) m : Nat) : Int))) ws.length ps → (Mk.dot ws ps - r) % m ≠ 0) ?_ ?_ ?_
    · exact ⟨⟨_, _, _, _, _, rfl⟩, Same.refl _, fun a _ _ h => absurd h (Nat.not_lt_zero a)⟩
    · rintro i σ A1 hi ⟨⟨o3, o4, o5, o6, o7, rfl⟩, sA, hg⟩ N hNx
      clear hN
      have hwi : ws[i]? = some ws[i] := List.getElem?_eq_getElem (by omega)
      have hvi : ws[i + 1]? = some ws[i + 1] := List.getElem?_eq_getElem (by omega)
      generalize ws[i] = w at hwi
      generalize ws[i + 1] = v at hvi
      and_intros
      refine seq_go fun n2 hM => ?_
      and_intros
      have e0 : (0 : Int) + (i : Int) = ((i : Nat) : Int) := by omega
      have e1 : ((i : Nat) : Int) + 1 = ((i + 1 : Nat) : Int) := rfl
      rw [e0, e1]
      refine ⟨_, _, .l (sA _ _ hw), atI_nat (by rw [List.getElem?_map, hwi]; rfl), _, _, .l (sA _ _ hw), atI_nat (by rw [List.getElem?_map, hvi]; rfl), ?_⟩
      and_intros
      refine ⟨_, _, rfl, ?_⟩
      and_intros
      have hgd : ((Int.gcd (w - v) m : Nat) : Int) ∣ m := Int.gcd_dvd_right (a := w - v) (b := m)
      have hg0 : 0 < ((Int.gcd (w - v) m : Nat) : Int) := by
        rcases Nat.eq_zero_or_pos (Int.gcd (w - v) m) with h | h
        · rw [h] at hgd
          have := Int.zero_dvd.mp hgd
          omega
        · omega
      have hgm := Int.le_of_dvd (by omega) hgd
      refine ⟨⟨hg0, Int.lt_of_le_of_lt hgm (Int.lt_of_le_of_lt hm26 (by decide))⟩, ?_⟩
      obtain ⟨st, hst⟩ := hgd
      have hst2 : m / ((Int.gcd (w - v) m : Nat) : Int) = st := Int.ediv_eq_of_eq_mul_right (by omega) hst
      have hst0 : 0 < st := by
        rcases Int.lt_or_le 0 st with h | h
        · exact h
        · have := Int.mul_le_mul_of_nonneg_left h (Int.le_of_lt hg0)
          omega
      have hstm : st ≤ m := by
        have : 1 * st ≤ ((Int.gcd (w - v) m : Nat) : Int) * st := Int.mul_le_mul_of_nonneg_right (by omega) (by omega)
        omega
      have hgt : st < m → 1 < Int.gcd (w - v) m := fun h => by
        rcases Nat.lt_or_ge 1 (Int.gcd (w - v) m) with h2 | h2
        · exact h2
        · have : ((Int.gcd (w - v) m : Nat) : Int) = 1 := by omega
          rw [this, Int.one_mul] at hst
          omega
      have hlt : 1 < Int.gcd (w - v) m → st < m := fun h => by
        have : 2 * st ≤ ((Int.gcd (w - v) m : Nat) : Int) * st := Int.mul_le_mul_of_nonneg_right (by omega) (by omega)
        omega
      have k1' := k1 i w v
      rw [hst2] at k1'
      rw [hst2, hM]
      clear hM n2
      and_intros
      refine ⟨by omega, by omega, ?_⟩
      refine for_rngO (n := m.toNat) (fun j σ H' => (∃ o5 o6 o7, σ = [some (.int m), some (.ref pw), some (.int r), some (.int (i : Int)), some (.int st), o5, o6, o7]) ∧ Same H H' ∧ (0 < j → st < m → ∀ ps, PL m (fx2 i 0 st) ws.length ps → (Mk.dot ws ps - r) % m ≠ 0)) ?_ ?_ ?_
      · exact ⟨⟨_, _, _, rfl⟩, sA, fun h => absurd h (Nat.lt_irrefl 0)⟩
      · rintro j σ B1 hj ⟨⟨o5, o6, o7, rfl⟩, sB, hgB⟩ N2 hN2
        clear hNx
        and_intros
        have ej : (0 : Int) + (j : Int) = ((j : Nat) : Int) := by omega
        rw [ej]
        refine ⟨_, _, _, rfl, by omega, by omega, by omega, ?_⟩
        refine for_rngS (n := rngN ((j : Int) + st) m st) (fun t σ H' => (∃ o6 o7, σ = [some (.int m), some (.ref pw), some (.int r), some (.int (i : Int)), some (.int st), some (.int (j : Int)), o6, o7]) ∧ Same H H' ∧ (0 < j → st < m → ∀ ps, PL m (fx2 i 0 st) ws.length ps → (Mk.dot ws ps - r) % m ≠ 0) ∧ (j = 0 → 0 < t → ∀ ps, PL m (fx2 i 0 st) ws.length ps → (Mk.dot ws ps - r) % m ≠ 0)) ?_ ?_ ?_
        · exact ⟨⟨_, _, rfl⟩, sB, hgB, fun _ h => absurd h (Nat.lt_irrefl 0)⟩
        · rintro t σ C1 ht ⟨⟨o6, o7, rfl⟩, sC, hgC, hgt2⟩ N3 hN3
          clear hN2
          have hhi : (j : Int) + st + (t : Nat) * st < m := by
            unfold rngN at ht
            split at ht
            · rename_i hlt2
              have h1 : ((t : Nat) : Int) ≤ (m - ((j : Int) + st) - 1) / st := by
                have := Int.ediv_nonneg (show 0 ≤ m - ((j : Int) + st) - 1 by omega) (show 0 ≤ st by omega)
                omega
              have h2 := (Int.le_ediv_iff_mul_le hst0).mp h1
              omega
            · omega
          have hts : 0 ≤ ((t : Nat) : Int) * st := Int.mul_nonneg (by omega) (by omega)
          generalize hhd : (j : Int) + st + (t : Nat) * st = hi_ at hhi
          and_intros
          refine seq_go fun n3 hM => ?_
          and_intros
          intro pd C2 zd u2 hd
          refine ⟨hd, [(.inl (i : Int), .int (j : Int)), (.inl ((i : Int) + 1), .int hi_)], rfl, by simp, fun C3 f3 h3 => ?_⟩
          have s3 : Same C1 C3 := fun c o e => f3 c o (fun e2 => by rw [e2, zd] at e; cases e) (u2 _ _ e)
          have sH3 := sC.trans s3
          clear f3 zd u2 hd
          refine ⟨m, pw, ws, r, pd, _, fx2 i (j : Int) hi_, rfl, hm1, hm26, sH3 _ _ hw, hl8, hws, h3, fun i' => ?_, fun i' v' hv' => ?_, fun q ps C4 s4 hq hPL hdot => ?_, fun C4 s4 hno => ?_⟩
          · show valV (putK (putK ([] : List (Key × V)) (Sum.inl (i : Int)) (.int (j : Int))) (Sum.inl ((i : Int) + 1)) (.int hi_)) (Sum.inl (i' : Int)) = _
            rw [valV_put, valV_put, valV_nil]
            unfold fx2
            have ek : ∀ a b : Int, ((Sum.inl a : Key) = Sum.inl b) ↔ a = b := fun a b => ⟨fun h => Sum.inl.inj h, fun h => by rw [h]⟩
            simp only [ek]
            by_cases c1 : i' = i
            · subst c1
              rw [if_neg (by omega), if_pos rfl, if_pos rfl]; rfl
            · by_cases c2 : i' = i + 1
              · subst c2
                rw [if_pos (by omega), if_neg (by omega), if_pos rfl]; rfl
              · rw [if_neg (by omega), if_neg (by omega), if_neg c1, if_neg c2]; rfl
          · unfold fx2 at hv'
            split at hv'
            · cases hv'; omega
            · split at hv'
              · cases hv'; omega
              · cases hv'
          · rw [hM]
            clear hM n3
            and_intros
            have sH4 := sH3.trans s4
            have hpl : ps.length ≤ 8 := by rw [hPL.1]; exact hl8
            have e2 : (i : Int) + 2 = ((i + 2 : Nat) : Int) := rfl
            rw [e2]
            simp only [cutV_take, cutV_drop]
            have m1 : ((ps.map V.int).take i).length ≤ 8 := by rw [List.length_take, List.length_map]; omega
            have m2 : ((ps.map V.int).drop (i + 2)).length ≤ 8 := by rw [List.length_drop, List.length_map]; omega
            refine ⟨ps.map V.int, .of hq, fun l1 D1 y1 v1 g1 => ⟨big (by decide), fun l2 D2 y2 v2 g2 => ⟨_, _, v2 _ _ g1, g2, big (show ((ps.map V.int).take i).length + 2 ≤ 1000 by omega), fun l3 D3 y3 v3 g3 => ⟨ps.map V.int, .of ((v1.trans (v2.trans v3)) _ _ hq), fun l4 D4 y4 v4 g4 => ⟨_, _, v4 _ _ g3, g4, by rw [List.length_append]; exact big (show ((ps.map V.int).take i).length + 2 + ((ps.map V.int).drop (i + 2)).length ≤ 1000 by omega), fun l5 D5 y5 v5 g5 => ⟨big (by decide), fun tt D6 y6 v6 g6 => ?_⟩⟩⟩⟩⟩⟩
            have v16 := v1.trans (v2.trans (v3.trans (v4.trans (v5.trans v6))))
            refine k1' (j : Int) hi_ ((t : Int) + 1) q ps tt l5 D6 hwi hvi (hgt (by omega)) (by omega) (by omega) hhi (by rw [Int.add_mul, Int.one_mul]; omega) hPL hdot (sH4.trans v16) (v16 _ _ hq) g6 (v6 _ _ ?_)
            rw [g5, List.map_append, List.map_append, List.map_take, List.map_drop, List.append_assoc]
            rfl
          · rw [hM]
            clear hM n3
            and_intros
            refine hN3 _ _ ⟨⟨_, _, rfl⟩, sH3.trans s4, hgC, fun hj0 _ => ?_⟩
            rcases Nat.eq_zero_or_pos t with h | h
            · subst hj0 h
              have e : hi_ = st := by rw [← hhd]; simp
              rw [e] at hno
              exact hno
            · exact hgt2 hj0 h
        · rintro σ C1 ⟨⟨o6, o7, rfl⟩, sC, hgC, hgt2⟩
          refine hN2 _ _ ⟨⟨_, _, _, rfl⟩, sC, fun _ hsm => ?_⟩
          rcases Nat.eq_zero_or_pos j with h | h
          · refine hgt2 h ?_
            subst h
            unfold rngN
            rw [if_pos (by omega)]
            have := Int.ediv_nonneg (show 0 ≤ m - (((0 : Nat) : Int) + st) - 1 by omega) (show 0 ≤ st by omega)
            omega
          · exact hgC h hsm
      · rintro σ B1 ⟨⟨o5, o6, o7, rfl⟩, sB, hgB⟩
        refine hNx _ _ ⟨⟨_, _, _, _, _, rfl⟩, sB, fun a w' v' ha h1 h2 h3 => ?_⟩
        rcases Nat.lt_or_ge a i with h | h
        · exact hg a w' v' h h1 h2 h3
        · have : a = i := by omega
          subst this
          rw [hwi] at h1
          rw [hvi] at h2
          cases h1
          cases h2
          rw [hst2]
          exact hgB (by omega) (hlt h3)
    · rintro σ H' ⟨⟨o3, o4, o5, o6, o7, rfl⟩, s, hg⟩
      show nn _ _ _
      rw [hN]
      and_intros
      refine k2 H' s fun a w v h1 h2 h3 => hg a w v ?_ h1 h2 h3
      have := (List.getElem?_eq_some_iff.mp h2).1
      omega
def sp_law_safe : Sp := fun vs H Q _ => ∃ (p : Addr) (ws : List Int) (m : Int), vs = [.ref p, .int m] ∧ H p = some (.lst (ws.map V.int)) ∧ ws.length ≤ 1000 ∧ 0 ≤ m ∧ Q (.bl (Mk.safe m ws)) H
theorem sc_law_safe : FnScope ["_law_weights_here", "_law_m", "_law_k"] ["_law_weights_here", "_law_m"] (defScope s_law_safe) := ⟨rfl, rfl, rfl, by decide +kernel, rfl, by decide +kernel, by decide +kernel⟩
theorem ok_law_safe {f : Addr} {fd : FuncData} (F : Fun K "_law_safe" "_law_safe" s_law_safe f fd) (T : Bl mg) (AF : AdF K mg Ad) (C_law_apart : Fnc P w K mg base (CX1 P w) 1 "_law_apart" ["_law_number", "_law_m"] sp_law_apart) : FnOk P w K mg base (CX1 P w) 2 f fd ["_law_weights_here", "_law_m"] sp_law_safe := by
  refine F.okX (k := 1) sc_law_safe (fun vs H Q E h => ?_) (fun cdv A outer s H vs Q E hr h => ?_)
  · obtain ⟨p, ws, m, rfl, _⟩ := h
    rfl
  · obtain ⟨p, ws, m, rfl, hp, hl, hm, k⟩ := h
    have hu := hr.units0
    have hu1 := hu_of hr
    refine ⟨_, pss_cons (ps_for PassesOwn.leaving rfl (pi_range1G T.range (pa_c (pe_callBG (call_lenK (K := K) rfl) T.len bt_len (pa_c (pvL 0) (pa_nil))) (pa_nil))) (pg_nameL (i := 2) sc_law_safe.nd) (pss_one (ps_if ((pw_or (pt_not (pt_val (pe_callG C_law_apart pass_def (hr.mono (by decide)) (pa_c (pe_ix (ix_K (K := K) rfl) (pvL 0) (pvL 2) (fun _ _ => rfl)) (pa_c (pvL 1) (pa_nil)))))) (pw_or1 ((pw_and (pt_cmpR op_gtX (pvL 2) (pe_int) (nomark _)) (pw_and1 (pt_not (pt_val (pe_callG C_law_apart pass_def (hr.mono (by decide)) (pa_c (pe_op op_subX (pe_ix (ix_K (K := K) rfl) (pvL 0) (pvL 2) (fun _ _ => rfl)) (pe_ix (ix_K (K := K) rfl) (pvL 0) (pe_op op_subX (pvL 2) (pe_int)) (fun _ _ => rfl))) (pa_c (pvL 1) (pa_nil)))))))).pt))).pt) (pss_one (ps_ret (pe_bl))) (pss_nil)))) (pss_one (ps_ret (pe_bl))), ?_⟩
    ac_nf
    refine ⟨_, .l hp, ?_⟩
    rw [List.length_map]
    refine ⟨by omega, by omega, ?_⟩
    refine for_rng (n := ws.length) (fun i σ H' => H' = H ∧ (∃ o, σ = [some (.ref p), some (.int m), o]) ∧ ∀ (j : Nat) a, j < i → ws[j]? = some a → Mk.cop m a = true ∧ ∀ b, 0 < j → ws[j - 1]? = some b → Mk.cop m (a - b) = true)
      ?_ ?_ ?_
    · exact ⟨rfl, ⟨none, rfl⟩, fun j a hj => absurd hj (Nat.not_lt_zero _)⟩
    · rintro i σ H' hi ⟨rfl, ⟨o, rfl⟩, hw⟩
      have hget : ws[i]? = some ws[i] := List.getElem?_eq_getElem hi
      have e1 : atI (ws.map V.int) (0 + (i : Int)) = some (.int ws[i]) := by
        rw [Int.zero_add]; exact atI_nat (by rw [List.getElem?_map, hget]; rfl)
      ac_nf
      refine ⟨_, _, .l hp, e1, ws[i], m, rfl, hm, ?_⟩
      ac_nf
      cases hc : Mk.cop m ws[i] with
      | false =>
        have : Mk.safe m ws = false := by
          cases hs : Mk.safe m ws with
          | false => rfl
          | true => rw [(Mk.safe_iff.mp hs).1 _ (List.getElem_mem hi)] at hc; cases hc
        rw [this] at k
        exact k
      | true =>
        bv_omega
        by_cases hi0 : i = 0
        · subst hi0
          rw [if_neg (by simp)]
          refine ⟨⟨_, rfl⟩, fun j a hj ha => ?_⟩
          have : j = 0 := by omega
          subst this
          rw [hget] at ha
          have := Option.some.inj ha
          subst this
          exact ⟨hc, fun b h0 => absurd h0 (by omega)⟩
        · rw [if_pos (by simp; omega)]
          have hget2 : ws[i - 1]? = some (ws[i - 1]'(by omega)) := List.getElem?_eq_getElem (by omega)
          have e2 : atI (ws.map V.int) (0 + (i : Int) - 1) = some (.int (ws[i - 1]'(by omega))) := by
            rw [show 0 + (i : Int) - 1 = ((i - 1 : Nat) : Int) by omega]; exact atI_nat (by rw [List.getElem?_map, hget2]; rfl)
          refine ⟨_, _, .l hp, e1, _, _, .l hp, e2, _, m, rfl, hm, ?_⟩
          ac_nf
          cases hc2 : Mk.cop m (ws[i] - ws[i - 1]'(by omega)) with
          | false =>
            have : Mk.safe m ws = false := by
              cases hs : Mk.safe m ws with
              | false => rfl
              | true =>
                have := (Mk.safe_iff.mp hs).2 (i - 1) _ _ hget2 (by rw [show i - 1 + 1 = i by omega]; exact hget)
                rw [this] at hc2; cases hc2
            rw [this] at k
            exact k
          | true =>
            bv_omega
            refine ⟨⟨_, rfl⟩, fun j a hj ha => ?_⟩
            by_cases hji : j = i
            · subst hji
              rw [hget] at ha
              have := Option.some.inj ha
              subst this
              refine ⟨hc, fun b _ hb => ?_⟩
              rw [hget2] at hb
              have := Option.some.inj hb
              subst this
              exact hc2
            · exact hw j a (by omega) ha
    · rintro σ H' ⟨rfl, ⟨o, rfl⟩, hw⟩
      have : Mk.safe m ws = true := by
        rw [Mk.safe_iff]
        refine ⟨fun w hwm => ?_, fun j a b ha hb => ?_⟩
        · obtain ⟨j, hj⟩ := List.getElem?_of_mem hwm
          exact (hw j w (List.getElem?_eq_some_iff.mp hj).1 hj).1
        · exact (hw (j + 1) b (List.getElem?_eq_some_iff.mp hb).1 hb).2 a (Nat.succ_pos _) ha
      rw [this] at k
      exact k
def sp_law_weights : Sp := fun vs H Q _ => ∃ c m n : Int, vs = [.int c, .int m, .int n] ∧ 0 < m ∧ m ≤ 1000 ∧ 0 ≤ n ∧ n ≤ 1000 ∧ ∀ p H', H p = none → Same H H' → H' p = some (.lst ((Mk.wts c m n.toNat).map V.int)) → Q (.ref p) H'
theorem sc_law_weights : FnScope ["_law_cell", "_law_m", "_law_many", "_law_found", "_law_k", "_law_some"] ["_law_cell", "_law_m", "_law_many"] (defScope s_law_weights) := ⟨rfl, rfl, rfl, by decide +kernel, rfl, by decide +kernel, by decide +kernel⟩
theorem ok_law_weights {f : Addr} {fd : FuncData} (F : Fun K "_law_weights" "_law_weights" s_law_weights f fd) (T : Bl mg) (AF : AdF K mg Ad) (C_law_apart : Fnc P w K mg base (CX1 P w) 1 "_law_apart" ["_law_number", "_law_m"] sp_law_apart) : FnOk P w K mg base (CX1 P w) 2 f fd ["_law_cell", "_law_m", "_law_many"] sp_law_weights := by
  refine F.okX (k := 1) sc_law_weights (fun vs H Q E h => ?_) (fun cdv A outer s H vs Q E hr h => ?_)
  · obtain ⟨c, m, n, rfl, _⟩ := h
    rfl
  · obtain ⟨c, m, n, rfl, hm, hm2, hn0, hn, k⟩ := h
    have hu := hr.units0
    have hu1 := hu_of hr
    refine ⟨_, pss_cons (ps_setC (i := 3) sc_law_weights.nd (pe_lstX (pa_nil))) (pss_cons (ps_for PassesOwn.leaving rfl (pi_range1G T.range (pa_c (pvL 2) (pa_nil))) (pg_nameC (i := 4) sc_law_weights.nd) (pss_cons (ps_setLC (i := 5) ["_law_w"] sc_law_weights.nd rfl (Or.inl rfl) rfl ⟨rfl, by decide +kernel, rfl, by decide +kernel⟩ (.cons (j := 1) rfl (.inl (by kernel_rfl)) (.cons (j := 4) rfl (.inl (by kernel_rfl)) (.cons (j := 3) rfl (.inl (by kernel_rfl)) (.nil)))) (by decide +kernel) (pi_range1G T.range (pa_c (pvC 1) (pa_nil))) (fun _ _ _ _ => pg_nameL (i := 0) (show (["_law_w", "_law_m", "_law_k", "_law_found"] : List Str).Nodup from by decide +kernel)) (fun _ _ _ _ => pif_one ((pw_and (pt_val (pe_callG C_law_apart passE0 (hr.mono (by decide)) (pa_c (pvL 0) (pa_c (pvC 1) (pa_nil))))) (pw_and1 ((pw_or (pt_cmpR (op_eqK (K := K) rfl hu) (pvC 2) (pe_int) (nomark _)) (pw_or1 (pt_val (pe_callG C_law_apart passE0 (hr.mono (by decide)) (pa_c (pe_op op_subX (pvL 0) (pe_ix (ix_K (K := K) rfl) (pvC 3) (pe_op op_subX (pvC 2) (pe_int)) (fun _ _ => rfl))) (pa_c (pvC 1) (pa_nil))))))).pt))).pt)) (fun _ _ _ _ => pvL 0)) (pss_cons (ps_if (pt_cmpR (op_eqK (K := K) rfl hu) (pvL 5) (pe_lstX (pa_nil)) (nomark _)) (pss_one (ps_setL (i := 5) sc_law_weights.nd (pe_callTyG (call_listK (K := K) rfl rfl) T.list bt_list (pa_c (pe_callTyG call_rngX T.range bt_range (pa_c (pvC 1) (pa_nil))) (pa_nil))))) (pss_nil)) (pss_cons (ps_expr (pe_bmG (K := K) rfl PySem.F.plainAttrs_list PySem.F.slot_list_append PySem.F.type_list_append mt_append (pvC 3) (pa_c (pe_ix (ix_K (K := K) rfl) (pvL 5) (pe_op op_modX (pvL 0) (pe_callBG (call_lenK (K := K) rfl) T.len bt_len (pa_c (pvL 5) (pa_nil)))) (fun _ _ => rfl)) (pa_nil)))) (pss_one (ps_setL (i := 0) sc_law_weights.nd (pe_op op_fdivX (pvL 0) (pe_int)))))))) (pss_one (ps_ret (pvC 3)))), ?_⟩
    ac_nf
    refine ⟨by decide, fun p H0 hp s0 h0 => ?_⟩
    ac_nf
    refine ⟨by omega, by omega, ?_⟩
    refine for_rng (n := n.toNat) (fun i σ H' => ∃ (ci : Int) (fnd : List Int) (o1 o2 : Option V), σ = [some (.int ci), some (.int m), some (.int n), some (.ref p), o1, o2] ∧ fnd.length = i ∧ Same H H' ∧ H' p = some (.lst (fnd.map V.int)) ∧ Mk.wtsGo m (n.toNat - i) ci fnd = Mk.wts c m n.toNat) ?_ ?_ ?_
    · exact ⟨c, [], none, none, rfl, rfl, s0, h0, rfl⟩
    · rintro i σ H' hi ⟨ci, fnd, o1, o2, rfl, hlen, s1, h1, hgo⟩
      ac_nf
      refine ⟨by omega, by omega, ?_⟩
      refine lc_one (xs := (Mk.ofN m.toNat).map V.int) (seq_ofN _) (by rw [List.length_map, Mk.ofN_len]; exact small_line (by omega)) (pI fun w => Mk.cop m w && (fnd.isEmpty || Mk.cop m (w - fnd.getLastD 0))) (fun x => x) ?_ ?_ ?_
      · intro x hx H2 s2 R hR
        obtain ⟨w, rfl, hw⟩ := mem_ints hx
        have h2 : H2 p = some (.lst (fnd.map V.int)) := s2 _ _ h1
        ac_nf
        refine ⟨w, m, rfl, by omega, ?_⟩
        ac_nf
        have e0 : pI (fun w => Mk.cop m w && (fnd.isEmpty || Mk.cop m (w - fnd.getLastD 0))) (.int w) = (Mk.cop m w && (fnd.isEmpty || Mk.cop m (w - fnd.getLastD 0))) := rfl
        rw [e0] at hR
        cases hc : Mk.cop m w with
        | false =>
          rw [hc, Bool.false_and] at hR
          exact hR H2 (Same.refl _)
        | true =>
          rw [hc, Bool.true_and] at hR
          bv_omega
          cases hf : fnd with
          | nil =>
            rw [hf] at hlen
            have hi0 : i = 0 := hlen.symm
            subst hi0
            rw [if_pos (by simp)]
            rw [hf] at hR
            exact hR H2 (Same.refl _)
          | cons a r =>
            have hne : i ≠ 0 := by rw [← hlen, hf]; simp
            rw [if_neg (by simp; omega)]
            have hlast : (fnd.map V.int)[i - 1]? = some (.int (fnd.getLastD 0)) := by
              rw [List.getElem?_map, ← hlen, ← List.getLast?_eq_getElem?, List.getLastD_eq_getLast?, hf, List.getLast?_cons]; rfl
            have e2 : atI (fnd.map V.int) (0 + (i : Int) - 1) = some (.int (fnd.getLastD 0)) := by
              rw [show 0 + (i : Int) - 1 = ((i - 1 : Nat) : Int) by omega]; exact atI_nat hlast
            refine ⟨_, _, .l h2, e2, _, m, rfl, by omega, ?_⟩
            ac_nf
            have e3 : fnd.isEmpty = false := by rw [hf]; rfl
            rw [e3, Bool.false_or] at hR
            exact hR H2 (Same.refl _)
      · intro x hx _ H2 s2 R hR
        ac_nf
        exact hR H2 (Same.refl _)
      · intro D H2 hD s2 h2
        have h2' : H2 D = some (.lst ((Mk.cand m fnd).map V.int)) := by
          rw [h2, List.map_id', filter_pI]; rfl
        have hp2 : H2 p = some (.lst (fnd.map V.int)) := s2 _ _ h1
        have hsame : ∀ H3, Same H' H3 → Same H H3 := fun H3 e b o hb => by
          by_cases hbp : b = p
          · subst hbp; rw [hp] at hb; cases hb
          · exact e b o (s1 b o hb)
        have hpk := Mk.pick_lt hm fnd ci
        have hpos := Mk.pool_pos hm fnd
        have hat : atI ((Mk.pool m fnd).map V.int) (ci % ((Mk.pool m fnd).length : Int)) = some (.int ((Mk.pool m fnd).getD (ci % ((Mk.pool m fnd).length : Int)).toNat 0)) := by
          have e : ((Mk.pool m fnd).map V.int)[(ci % ((Mk.pool m fnd).length : Int)).toNat]? = some (.int ((Mk.pool m fnd).getD (ci % ((Mk.pool m fnd).length : Int)).toNat 0)) := by
            rw [List.getElem?_map, List.getD_eq_getElem?_getD, List.getElem?_eq_getElem (by omega)]; rfl
          have := atI_nat e
          rwa [Int.toNat_of_nonneg hpk.1] at this
        have hgo2 : Mk.wtsGo m (n.toNat - (i + 1)) (ci / 7) (fnd ++ [(Mk.pool m fnd).getD (ci % ((Mk.pool m fnd).length : Int)).toNat 0]) = Mk.wts c m n.toNat := by
          rw [← hgo, show n.toNat - i = (n.toNat - (i + 1)) + 1 by omega]; rfl
        ac_nf
        refine ⟨Nat.zero_le _, fun r H3 hr s3 h3 => ?_⟩
        refine ⟨_, _, .of (s3 _ _ h2'), .of h3, flat_ints _, rfl, ?_⟩
        have s4 : Same H' H3 := s2.trans s3
        have hp3 : H3 p = some (.lst (fnd.map V.int)) := s3 _ _ hp2
        cases hcand : Mk.cand m fnd with
        | nil =>
          have hpool : Mk.pool m fnd = Mk.ofN m.toNat := by unfold Mk.pool; rw [if_pos hcand]
          rw [if_pos (show eqVs (([] : List Int).map V.int) [] = true from rfl)]
          intro a H4 ha s5 h4
          refine ⟨_, .inr ⟨0, m, h4, ⟨by omega, by omega, by omega, by omega⟩, by omega, rfl⟩, fun l H5 hl s6 h5 => ?_⟩
          have hp5 : H5 p = some (.lst (fnd.map V.int)) := s6 _ _ (s5 _ _ hp3)
          have hl5 : H5 l = some (.lst ((Mk.pool m fnd).map V.int)) := by rw [h5, hpool, Int.sub_zero, rngV_ints]
          have s7 : Same H' H5 := s4.trans (s5.trans s6)
          ac_nf
          refine ⟨.inl ⟨rfl, _, .of hp5⟩, _, .l hl5, by rw [List.length_map]; omega, _, _, .l hl5, by rw [List.length_map]; exact hat, p, _, _, rfl, rfl, hp5, by rw [List.length_map]; exact small_line (by omega), ⟨by decide, by decide⟩, _, _, _, _, rfl, ?_, (hsame _ s7).upd_new hp, ?_, hgo2⟩
          · rw [List.length_append, hlen]; rfl
          · rw [upd_same, List.map_append]; rfl
        | cons x y =>
          have hpool : Mk.pool m fnd = Mk.cand m fnd := by unfold Mk.pool; rw [if_neg (by rw [hcand]; simp)]
          rw [if_neg (by simp [eqVs])]
          have hl3 : H3 D = some (.lst ((Mk.pool m fnd).map V.int)) := by rw [hpool]; exact s3 _ _ h2'
          refine ⟨.inl ⟨rfl, _, .of hp3⟩, _, .l hl3, by rw [List.length_map]; omega, _, _, .l hl3, by rw [List.length_map]; exact hat, p, _, _, rfl, rfl, hp3, by rw [List.length_map]; exact small_line (by omega), ⟨by decide, by decide⟩, _, _, _, _, rfl, ?_, (hsame _ s4).upd_new hp, ?_, hgo2⟩
          · rw [List.length_append, hlen]; rfl
          · rw [upd_same, List.map_append]; rfl
    · rintro σ H' ⟨ci, fnd, o1, o2, rfl, hlen, s1, h1, hgo⟩
      ac_nf
      refine k p H' hp s1 ?_
      rw [h1, ← hgo, Nat.sub_self]
      rfl
def sp_law_is_good : Sp := fun vs H Q _ => ∃ (al : List Nat) (p : Addr) (ws : List Int) (r : Int) (ps : List Int), vs = [.str (tx al), .ref p, .int r, .str (tx (Mk.spell al ps))] ∧ al.Nodup ∧ 3 ≤ al.length ∧ al.length ≤ 26 ∧ H p = some (.lst (ws.map V.int)) ∧ ws.length ≤ 8 ∧ Mk.sml ws ∧ okPs al.length ws.length ps ∧ ∀ H', Same H H' → Q (.bl (decide ((Mk.dot ws ps - r) % (al.length : Int) = 0))) H'
theorem sc_law_is_good : FnScope ["_law_alphabet_here", "_law_weights_here", "_law_rest", "_law_word", "_law_places"] ["_law_alphabet_here", "_law_weights_here", "_law_rest", "_law_word"] (defScope s_law_is_good) := ⟨rfl, rfl, rfl, by decide +kernel, rfl, by decide +kernel, by decide +kernel⟩
theorem ok_law_is_good {f : Addr} {fd : FuncData} (F : Fun K "_law_is_good" "_law_is_good" s_law_is_good f fd) (T : Bl mg) (AF : AdF K mg Ad) (C_law_sum : Fnc P w K mg base (CX1 P w) 1 "_law_sum" ["_law_weights_here", "_law_places"] sp_law_sum) : FnOk P w K mg base (CX1 P w) 2 f fd ["_law_alphabet_here", "_law_weights_here", "_law_rest", "_law_word"] sp_law_is_good := by
  refine F.okX (k := 1) sc_law_is_good (fun vs H Q E h => ?_) (fun cdv A outer s H vs Q E hr h => ?_)
  · obtain ⟨al, p, ws, r, ps, rfl, _⟩ := h
    rfl
  · obtain ⟨al, p, ws, r, ps, rfl, nd, g3, g26, hp, w8, hws, okp, k⟩ := h
    have hu := hr.units0
    have hu1 := hu_of hr
    refine ⟨_, pss_cons (ps_if ((pw_or (pt_not (pt_val (pe_callBG (call_isiC .str) T.isinstance bt_isinstance (pa_c (pvL 3) (pa_c (pe_tyG T.str bt_str) (pa_nil)))))) (pw_or1 (pt_cmpR (op_neK (K := K) rfl hu) (pe_callBG (call_lenK (K := K) rfl) T.len bt_len (pa_c (pvL 3) (pa_nil))) (pe_callBG (call_lenK (K := K) rfl) T.len bt_len (pa_c (pvL 1) (pa_nil))) (nomark _)))).pt) (pss_one (ps_ret (pe_bl))) (pss_nil)) (pss_cons (ps_setLC (i := 4) ["_law_letter"] sc_law_is_good.nd rfl (Or.inl rfl) rfl ⟨rfl, by decide +kernel, rfl, by decide +kernel⟩ (.cons (j := 0) rfl (.inl (by kernel_rfl)) (.nil)) (by decide +kernel) (pi_seqK (K := K) rfl (pvL 3)) (fun _ _ _ _ => pg_nameL (i := 0) (show (["_law_letter", "_law_alphabet_here"] : List Str).Nodup from by decide +kernel)) (fun _ _ _ _ => pif_nil) (fun _ _ _ _ => pe_bmG (K := K) rfl PySem.F.plainAttrs_str PySem.F.slot_str_find PySem.F.type_str_find mt_findS (pvC 1) (pa_c (pvL 0) (pa_nil)))) (pss_one (ps_ret (pe_and (pe_cmpR (op_notInK (K := K) rfl hu1) (pe_un un_neg (pe_int)) (pvL 4) (by kernel_rfl)) (pe_one (pe_cmpR (op_eqK (K := K) rfl hu) (pe_op op_modX (pe_op op_subX (pe_callG C_law_sum pass_def (hr.mono (by decide)) (pa_c (pvL 1) (pa_c (pvL 4) (pa_nil)))) (pvL 2)) (pe_callBG (call_lenK (K := K) rfl) T.len bt_len (pa_c (pvC 0) (pa_nil)))) (pe_int) (nomark _))))))), ?_⟩
    have big : ∀ {u : Nat}, u ≤ 1000 → u ≤ sizeLine := fun hu => Nat.le_of_lt (small_line (by omega))
    have hsl := Mk.spell_len al ps
    have hpsp := Mk.plc_spell nd okp.2
    have opl := okp.1
    refine seq_go fun nn hN => ?_
    and_intros
    refine ⟨trivial, Tg.str, rfl, ?_⟩
    and_intros
    rw [tx_len]
    refine ⟨big (by omega), _, .l hp, ?_⟩
    rw [List.length_map, decide_eq_true (show (((Mk.spell al ps).length : Nat) : Int) = ((ws.length : Nat) : Int) by omega)]
    bv_omega
    rw [hN]
    clear hN nn
    refine seq_go fun nn hN => ?_
    and_intros
    refine lc_M (fun c : Nat => V.str ⟨#[c]⟩) inj_sg (seq_sg _) (small_line (by rw [tx_cps]; omega)) (fun c => .int ((al.idxOf c : Nat) : Int)) ?_ ?_
    · intro c hc H2 s2 R hR
      rw [tx_cps] at hc
      have hca : c ∈ al := by
        unfold Mk.spell at hc
        obtain ⟨x, hx, rfl⟩ := List.mem_map.mp hc
        exact Mk.getD_mem (okp.2 x hx)
      ac_nf
      rw [find_one (by rw [tx_cps]; exact hca), tx_cps]
      exact ⟨rfl, hR H2 (Same.refl _)⟩
    intro D H2 hD s2 h2
    have h2' : H2 D = some (.lst (ps.map V.int)) := by
      rw [h2, tx_cps]
      have e : (Mk.spell al ps).map (fun c => V.int ((al.idxOf c : Nat) : Int)) = (Mk.plc al (Mk.spell al ps)).map V.int := by unfold Mk.plc; rw [List.map_map]; rfl
      rw [e, hpsp]
    rw [hN]
    clear hN nn
    and_intros
    refine .inl ⟨_, .l h2', rfl, ?_, ?_⟩
    · rw [List.all_map]
      exact List.all_eq_true.mpr fun x _ => rfl
    have hni : inV (V.int (-1)) (ps.map V.int) = false := by
      unfold inV
      rw [List.any_map, Bool.eq_false_iff]
      intro h
      obtain ⟨x, hx, hx2⟩ := List.any_eq_true.mp h
      have hb := okp.2 x hx
      have e : (x == (-1 : Int)) = true ∨ ((-1 : Int) == x) = true := by
        first
          | exact .inl hx2
          | exact .inr hx2
      rcases e with e | e
      · have := eq_of_beq e; omega
      · have := eq_of_beq e; omega
    rw [hni]
    bv_omega
    refine ⟨p, ws, D, ps, rfl, s2 _ _ hp, h2', by omega, by omega, hws, Mk.sml_of okp.2 (by omega), ?_⟩
    and_intros
    rw [tx_len]
    refine ⟨big (by omega), ?_⟩
    and_intros
    exact ⟨by omega, k H2 s2⟩
def sp_unsafe_pair : Sp := fun vs H Q _ => ∃ (al : List Nat) (pw : Addr) (ws : List Int) (r : Int), vs = [.str (tx al), .ref pw, .int r] ∧ 3 ≤ al.length ∧ al.length ≤ 26 ∧ H pw = some (.lst (ws.map V.int)) ∧ 3 ≤ ws.length ∧ ws.length ≤ 8 ∧ (∀ w ∈ ws, 0 ≤ w ∧ w < (al.length : Int)) ∧
  (∀ ps qs t H', okPs al.length ws.length ps → okPs al.length ws.length qs → (Mk.dot ws ps - r) % (al.length : Int) = 0 → (Mk.dot ws qs - r) % (al.length : Int) = 0 → Fault1 ps qs → Mk.safe al.length ws = false → Same H H' → H' t = some (.tup [.str (tx (Mk.spell al ps)), .str (tx (Mk.spell al qs))]) → Q (.ref t) H') ∧
  (∀ H', Same H H' → (Mk.safe al.length ws = true ∨ ∀ ps, okPs al.length ws.length ps → (Mk.dot ws ps - r) % (al.length : Int) ≠ 0) → Q .non H')
theorem PL_ok {m : Int} {fx : Nat → Option Int} {n : Nat} {ps : List Int} (h : PL m fx n ps) : okPs m n ps := ⟨h.1, fun x hx => by obtain ⟨i, hi⟩ := List.getElem?_of_mem hx; exact (h.2 i x hi).1⟩
theorem sc_unsafe_pair : FnScope ["alphabet", "weights", "rest", "m", "places", "pair"] ["alphabet", "weights", "rest"] (defScope s_unsafe_pair) := ⟨rfl, rfl, rfl, by decide +kernel, rfl, by decide +kernel, by decide +kernel⟩
theorem ok_unsafe_pair {f : Addr} {fd : FuncData} (F : Fun K "unsafe_pair" "unsafe_pair" s_unsafe_pair f fd) (T : Bl mg) (AF : AdF K mg Ad) (C_spelled : Fnc P w K mg base (CX1 P w) 1 "spelled" ["alphabet", "places"] sp_spelled) (C_pair_by_swap : Fnc P w K mg base (CX1 P w) 2 "pair_by_swap" ["m", "weights", "rest"] sp_pair_by_swap) (C_pair_by_exchange : Fnc P w K mg base (CX1 P w) 2 "pair_by_exchange" ["m", "weights", "places"] sp_pair_by_exchange) (C_good_places : Fnc P w K mg base (CX1 P w) 1 "good_places" ["m", "weights", "rest", "fixed"] sp_good_places) : FnOk P w K mg base (CX1 P w) 3 f fd ["alphabet", "weights", "rest"] sp_unsafe_pair := by
  refine F.okX (k := 2) sc_unsafe_pair (fun vs H Q E h => ?_) (fun cdv A outer s H vs Q E hr h => ?_)
  · obtain ⟨al, pw, ws, r, rfl, _⟩ := h
    rfl
  · obtain ⟨al, pw, ws, r, rfl, g3, g26, hw, w3, w8, hwb, k1, k2⟩ := h
    have hu := hr.units0
    have hu1 := hu_of hr
    refine ⟨_, pss_cons (ps_setL (i := 3) sc_unsafe_pair.nd (pe_callBG (call_lenK (K := K) rfl) T.len bt_len (pa_c (pvL 0) (pa_nil)))) (pss_cons (ps_setL (i := 4) sc_unsafe_pair.nd (pe_callG C_good_places pass_def (hr.mono (by decide)) (pa_c (pvL 3) (pa_c (pvL 1) (pa_c (pvL 2) (pa_c (pe_dnewX) (pa_nil))))))) (pss_cons (ps_if (pt_cmpR op_isX (pvL 4) (pe_non) (nomark _)) (pss_one (ps_ret (pe_non))) (pss_nil)) (pss_cons (ps_setL (i := 5) sc_unsafe_pair.nd (pe_callG C_pair_by_exchange pass_def (hr.mono (by decide)) (pa_c (pvL 3) (pa_c (pvL 1) (pa_c (pvL 4) (pa_nil)))))) (pss_cons (ps_if (pt_cmpR op_isX (pvL 5) (pe_non) (nomark _)) (pss_one (ps_setL (i := 5) sc_unsafe_pair.nd (pe_callG C_pair_by_swap pass_def (hr.mono (by decide)) (pa_c (pvL 3) (pa_c (pvL 1) (pa_c (pvL 2) (pa_nil))))))) (pss_nil)) (pss_cons (ps_if (pt_cmpR op_isX (pvL 5) (pe_non) (nomark _)) (pss_one (ps_ret (pe_non))) (pss_nil)) (pss_one (ps_ret (pe_tupX (pa_c (pe_callG C_spelled pass_def (hr.mono (by decide)) (pa_c (pvL 0) (pa_c (pe_ix (ix_K (K := K) rfl) (pvL 5) (pe_int) (fun _ _ => rfl)) (pa_nil)))) (pa_c (pe_callG C_spelled pass_def (hr.mono (by decide)) (pa_c (pvL 0) (pa_c (pe_ix (ix_K (K := K) rfl) (pvL 5) (pe_int) (fun _ _ => rfl)) (pa_nil)))) (pa_nil))))))))))), ?_⟩
    have big : ∀ {u : Nat}, u ≤ 1000 → u ≤ sizeLine := fun hu => Nat.le_of_lt (small_line (by omega))
    have hws : Mk.sml ws := fun x hx => by have := hwb x hx; omega
    have m0 : (0 : Int) < (al.length : Int) := by omega
    refine seq_go fun nn hN => ?_
    and_intros
    rw [tx_len]
    refine ⟨big (by omega), ?_⟩
    rw [hN]
    clear hN nn
    refine seq_go fun nn hN => ?_
    and_intros
    intro fd0 G1 z1 s1 h1
    refine ⟨(al.length : Int), pw, ws, r, fd0, [], fun _ => none, rfl, by omega, by omega, s1 _ _ hw, w8, hws, h1, fun i => rfl, (fun i v h => by cases h), fun q ps G2 s2 hq hPL hdot => ?_, fun G2 s2 hno => ?_⟩
    · rw [hN]
      clear hN nn
      refine seq_go fun nn hN => ?_
      and_intros
      rw [hN]
      clear hN nn
      have sH := s1.trans s2
      have okp := PL_ok hPL
      refine seq_go fun nn hN => ?_
      and_intros
      refine ⟨(al.length : Int), pw, ws, q, ps, rfl, by omega, by omega, sH _ _ hw, hq, okp.1.symm, by rw [okp.1]; exact w8, fun a w p t q2 G3 ha hp hd s3 ht hq2 => ?_, fun G3 s3 hall => ?_⟩
      · rw [hN]
        clear hN nn
        and_intros
        have hpb := okp.2 p (List.mem_of_getElem? hp)
        obtain ⟨hxb, hxn, hxg⟩ := Mk.exch_good (r := r) m0 ha hp hpb hd hdot
        have ok2 : okPs al.length ws.length (ps.set a ((p + (al.length : Int) / ((Int.gcd w (al.length : Int) : Nat) : Int)) % (al.length : Int))) := ⟨by rw [List.length_set]; exact okp.1, Mk.set_mem2 okp.2 hxb⟩
        have flt : Fault1 ps (ps.set a ((p + (al.length : Int) / ((Int.gcd w (al.length : Int) : Nat) : Int)) % (al.length : Int))) := .inl ⟨a, p, _, hp, hxn, rfl⟩
        have ns : Mk.safe al.length ws = false := by
          rw [Bool.eq_false_iff]
          intro hs
          have := Mk.cop_le ((Mk.safe_iff.mp hs).1 w (List.mem_of_getElem? ha))
          omega
        have sG := sH.trans s3
        have hq3 := s3 _ _ hq
        generalize ps.set a ((p + (al.length : Int) / ((Int.gcd w (al.length : Int) : Nat) : Int)) % (al.length : Int)) = qs at ok2 flt hxg hq2
        refine seq_go fun nn hN => ?_
        and_intros
        rw [hN]
        clear hN nn
        refine seq_go fun nn hN => ?_
        and_intros
        rw [hN]
        clear hN nn
        and_intros
        have a0 : atI [V.ref q, V.ref q2] 0 = some (.ref q) := atI_nat (xs := [V.ref q, V.ref q2]) (j := 0) rfl
        have a1 : atI [V.ref q, V.ref q2] 1 = some (.ref q2) := atI_nat (xs := [V.ref q, V.ref q2]) (j := 1) rfl
        refine ⟨_, _, .t ht, a0, ?_⟩
        refine ⟨tx al, q, ps, rfl, by rw [tx_len]; omega, hq3, by rw [okp.1]; omega, by rw [tx_cps]; exact okp.2, fun G7 s7 => ?_⟩
        refine ⟨_, _, .t (s7 _ _ ht), a1, ?_⟩
        refine ⟨tx al, q2, qs, rfl, by rw [tx_len]; omega, s7 _ _ hq2, by rw [ok2.1]; omega, by rw [tx_cps]; exact ok2.2, fun G8 s8 => ⟨big (by decide), fun tt G9 z9 s9 h9 => ?_⟩⟩
        rw [tx_cps] at h9
        exact k1 ps qs tt G9 okp ok2 hdot hxg flt ns (sG.trans (s7.trans (s8.trans s9))) h9
      · rw [hN]
        clear hN nn
        and_intros
        have sG := sH.trans s3
        have hc : ∀ w ∈ ws, Mk.cop (al.length : Int) w = true := fun w hw' => by
          have h1 := hall w hw'
          refine decide_eq_true ?_
          obtain ⟨g, st, u, e1, e2, _⟩ := Mk.div_gcd (x := w) m0
          omega
        refine seq_go fun nn hN => ?_
        and_intros
        refine ⟨(al.length : Int), pw, ws, r, rfl, by omega, by omega, sG _ _ hw, by omega, w8, hws, fun a w v lo hi c q3 ps3 t q2 G4 ha hv hd h0 hlh hhm hcs hPL3 hdot3 s4 hq3 ht hq2 => ?_, fun G4 s4 hno => ?_⟩
        · rw [hN]
          clear hN nn
          have okp3 := PL_ok hPL3
          have hal : a + 1 < ws.length := (List.getElem?_eq_some_iff.mp hv).1
          have ea : ps3[a]? = some lo := by
            have e := List.getElem?_eq_getElem (show a < ps3.length by rw [okp3.1]; omega)
            rw [e, (hPL3.2 a _ e).2 lo (by unfold fx2; rw [if_pos rfl])]
          have eb : ps3[a + 1]? = some hi := by
            have e := List.getElem?_eq_getElem (show a + 1 < ps3.length by rw [okp3.1]; omega)
            rw [e, (hPL3.2 (a + 1) _ e).2 hi (by unfold fx2; rw [if_neg (by omega), if_pos rfl])]
          have hsg := Mk.swap_good2 (r := r) m0 ha hv ea eb hcs hdot3
          have e2 : ps3.take a ++ ([hi, lo] ++ ps3.drop (a + 2)) = (ps3.set a hi).set (a + 1) lo := by rw [Mk.set_two _ _ _ _ (by rw [okp3.1]; exact hal)]; rfl
          rw [e2] at hq2
          have ok2 : okPs al.length ws.length ((ps3.set a hi).set (a + 1) lo) := ⟨by rw [List.length_set, List.length_set]; exact okp3.1, Mk.set_mem2 (Mk.set_mem2 okp3.2 ⟨by omega, hhm⟩) ⟨h0, by omega⟩⟩
          have flt : Fault1 ps3 ((ps3.set a hi).set (a + 1) lo) := .inr ⟨a, lo, hi, ea, eb, by omega, rfl⟩
          have ns : Mk.safe al.length ws = false := by
            rw [Bool.eq_false_iff]
            intro hs
            have h1 := (Mk.safe_iff.mp hs).2 a w v ha hv
            rw [show v - w = -(w - v) by omega, Mk.cop_neg] at h1
            have := Mk.cop_le h1
            omega
          have sG4 := sG.trans s4
          generalize (ps3.set a hi).set (a + 1) lo = qs at ok2 flt hsg hq2
          refine seq_go fun nn hN => ?_
          and_intros
          rw [hN]
          clear hN nn
          and_intros
          have a0 : atI [V.ref q3, V.ref q2] 0 = some (.ref q3) := atI_nat (xs := [V.ref q3, V.ref q2]) (j := 0) rfl
          have a1 : atI [V.ref q3, V.ref q2] 1 = some (.ref q2) := atI_nat (xs := [V.ref q3, V.ref q2]) (j := 1) rfl
          refine ⟨_, _, .t ht, a0, ?_⟩
          refine ⟨tx al, q3, ps3, rfl, by rw [tx_len]; omega, hq3, by rw [okp3.1]; omega, by rw [tx_cps]; exact okp3.2, fun G7 s7 => ?_⟩
          refine ⟨_, _, .t (s7 _ _ ht), a1, ?_⟩
          refine ⟨tx al, q2, qs, rfl, by rw [tx_len]; omega, s7 _ _ hq2, by rw [ok2.1]; omega, by rw [tx_cps]; exact ok2.2, fun G8 s8 => ⟨big (by decide), fun tt G9 z9 s9 h9 => ?_⟩⟩
          rw [tx_cps] at h9
          exact k1 ps3 qs tt G9 okp3 ok2 hdot3 hsg flt ns (sG4.trans (s7.trans (s8.trans s9))) h9
        · rw [hN]
          clear hN nn
          refine seq_go fun nn hN => ?_
          and_intros
          refine k2 G4 (sG.trans s4) (.inl (Mk.safe_iff.mpr ⟨hc, fun j a b ha hb => ?_⟩))
          rw [show b - a = -(a - b) by omega, Mk.cop_neg]
          refine decide_eq_true ?_
          obtain ⟨g, st, u, e1, e2, e3, e4, e5, e6⟩ := Mk.div_gcd (x := a - b) m0
          rcases Nat.lt_or_ge 1 (Int.gcd (a - b) (al.length : Int)) with h | h
          · have hal : j + 1 < ws.length := (List.getElem?_eq_some_iff.mp hb).1
            have hstm : st < (al.length : Int) := by
              have : 2 * st ≤ g * st := Int.mul_le_mul_of_nonneg_right (by omega) (by omega)
              omega
            obtain ⟨ps4, f1, f2, f3, f4, f5⟩ := Mk.fix_exists (r := r) (lo := 0) (hi := st) m0 (by omega) w3 hwb hc hal ⟨Int.le_refl 0, m0⟩ ⟨by omega, hstm⟩
            refine absurd f5 (hno j a b ha hb h ps4 ⟨f1, fun i x hi => ⟨f2 i x hi, fun v hv => ?_⟩⟩)
            rw [← e1, e5] at hv
            unfold fx2 at hv
            split at hv
            · rename_i hij
              rw [hij, f3] at hi
              cases hi
              cases hv
              rfl
            · split at hv
              · rename_i hij
                rw [hij, f4] at hi
                cases hi
                cases hv
                rfl
              · cases hv
          · omega
    · rw [hN]
      clear hN nn
      refine seq_go fun nn hN => ?_
      and_intros
      exact k2 G2 (s1.trans s2) (.inr fun ps hp => hno ps ⟨hp.1, fun i x hi => ⟨hp.2 x (List.mem_of_getElem? hi), fun v h => by cases h⟩⟩)
def sp_law_some_weights : Sp := fun vs H Q _ => ∃ c m : Int, vs = [.int c, .int m] ∧ 0 < m ∧ m ≤ 1000 ∧ ∀ p H', H p = none → Same H H' → H' p = some (.lst ((Mk.someW c m).map V.int)) → Q (.ref p) H'
theorem sc_law_some_weights : FnScope ["_law_cell", "_law_m", "_law_number", "_law_weights_here", "_law_at"] ["_law_cell", "_law_m"] (defScope s_law_some_weights) := ⟨rfl, rfl, rfl, by decide +kernel, rfl, by decide +kernel, by decide +kernel⟩
theorem ok_law_some_weights {f : Addr} {fd : FuncData} (F : Fun K "_law_some_weights" "_law_some_weights" s_law_some_weights f fd) (T : Bl mg) (AF : AdF K mg Ad) (C_law_digits : Fnc P w K mg base (CX1 P w) 1 "_law_digits" ["_law_number", "_law_m", "_law_many"] sp_law_digits) (C_law_weights : Fnc P w K mg base (CX1 P w) 2 "_law_weights" ["_law_cell", "_law_m", "_law_many"] sp_law_weights) (C_law_mixed : Fnc P w K mg base (CX1 P w) 1 "_law_mixed" ["_law_cell"] sp_law_mixed) : FnOk P w K mg base (CX1 P w) 3 f fd ["_law_cell", "_law_m"] sp_law_some_weights := by
  refine F.okX (k := 2) sc_law_some_weights (fun vs H Q E h => ?_) (fun cdv A outer s H vs Q E hr h => ?_)
  · obtain ⟨c, m, rfl, _⟩ := h
    rfl
  · obtain ⟨c, m, rfl, hm, hm2, k⟩ := h
    have hu := hr.units0
    have hu1 := hu_of hr
    refine ⟨_, pss_cons (ps_setL (i := 2) sc_law_some_weights.nd (pe_callG C_law_mixed pass_def (hr.mono (by decide)) (pa_c (pvL 0) (pa_nil)))) (pss_cons (ps_setL (i := 3) sc_law_some_weights.nd (pe_callG C_law_weights pass_def (hr.mono (by decide)) (pa_c (pe_op op_fdivX (pvL 2) (pe_int)) (pa_c (pvL 1) (pa_c (pe_op op_addX (pe_int) (pe_op op_modX (pvL 2) (pe_int))) (pa_nil)))))) (pss_cons (ps_if (pt_cmpR (op_eqK (K := K) rfl hu) (pe_op op_modX (pe_op op_fdivX (pvL 2) (pe_int)) (pe_int)) (pe_int) (nomark _)) (pss_cons (ps_setL (i := 4) sc_law_some_weights.nd (pe_op op_modX (pe_op op_fdivX (pvL 2) (pe_int)) (pe_callBG (call_lenK (K := K) rfl) T.len bt_len (pa_c (pvL 3) (pa_nil))))) (pss_one (ps_asg (pe_op op_modX (pe_op op_fdivX (pvL 2) (pe_int)) (pvL 1)) (pg_sub (pvL 3) (pvL 4) set_list)))) (pss_nil)) (pss_cons (ps_if (pt_cmpR (op_eqK (K := K) rfl hu) (pe_op op_modX (pe_op op_fdivX (pvL 2) (pe_int)) (pe_int)) (pe_int) (nomark _)) (pss_one (ps_setL (i := 3) sc_law_some_weights.nd (pe_callG C_law_digits pass_def (hr.mono (by decide)) (pa_c (pe_op op_fdivX (pvL 2) (pe_int)) (pa_c (pvL 1) (pa_c (pe_callBG (call_lenK (K := K) rfl) T.len bt_len (pa_c (pvL 3) (pa_nil))) (pa_nil))))))) (pss_nil)) (pss_cons (ps_if ((pw_and (pt_cmpR (op_eqK (K := K) rfl hu) (pe_op op_modX (pe_op op_fdivX (pvL 2) (pe_int)) (pe_int)) (pe_int) (nomark _)) (pw_and1 (pt_cmpR (op_eqK (K := K) rfl hu) (pe_op op_modX (pe_op op_fdivX (pvL 2) (pe_int)) (pe_int)) (pe_int) (nomark _)))).pt) (pss_one (ps_setL (i := 3) sc_law_some_weights.nd (pe_op op_mulX (pe_lstX (pa_c (pe_op op_modX (pe_op op_fdivX (pvL 2) (pe_int)) (pvL 1)) (pa_nil))) (pe_callBG (call_lenK (K := K) rfl) T.len bt_len (pa_c (pvL 3) (pa_nil)))))) (pss_nil)) (pss_one (ps_ret (pvL 3))))))), ?_⟩
    ac_nf
    refine ⟨c, rfl, ?_⟩
    ac_nf
    have hk : ∀ p H', H p = none → Same H H' → H' p = some (.lst ((Mk.w4 (Mk.mixed c) m).map V.int)) → Q (.ref p) H' := k
    clear k
    have hb := Mk.w1_bounds (n := Mk.mixed c) (m := m)
    generalize Mk.mixed c = n at hk hb ⊢
    have h60 : 0 ≤ n % 6 := Int.emod_nonneg _ (by decide)
    have h6 : n % 6 < 6 := Int.emod_lt_of_pos _ (by decide)
    refine ⟨⟨by decide, by decide⟩, by decide, _, _, _, rfl, hm, hm2, by omega, by omega, fun p H1 hp s1 h1 => ?_⟩
    have h1' : H1 p = some (.lst ((Mk.w1 n m).map V.int)) := h1
    ac_nf
    refine ⟨⟨by decide, by decide⟩, by decide, ?_⟩
    by_cases c1 : n / 6 % 4 = 1
    · have e2 : Mk.w2 n m = (Mk.w1 n m).set (n / 24 % ((Mk.w1 n m).length : Int)).toNat (n / 200 % m) := by unfold Mk.w2; rw [if_pos c1]
      have e3 : Mk.w3 n m = Mk.w2 n m := by unfold Mk.w3; rw [if_neg (by omega)]
      have e4 : Mk.w4 n m = Mk.w3 n m := by unfold Mk.w4; rw [if_neg (by omega)]
      have q1 : 0 ≤ n / 24 % ((Mk.w1 n m).length : Int) := Int.emod_nonneg _ (by omega)
      have q2 : n / 24 % ((Mk.w1 n m).length : Int) < ((Mk.w1 n m).length : Int) := Int.emod_lt_of_pos _ (by omega)
      rw [if_pos (decide_eq_true c1)]
      refine ⟨⟨by decide, by decide⟩, _, .l h1', ?_⟩
      rw [List.length_map]
      refine ⟨by omega, ⟨by decide, by decide⟩, hm, p, _, _, (n / 24 % ((Mk.w1 n m).length : Int)).toNat, rfl, rfl, h1', ?_, ⟨by decide, by decide⟩, by decide, ?_⟩
      · unfold ixN; rw [List.length_map, if_pos q1, if_pos q2]
      · have h2 : upd H1 p (.lst (((Mk.w1 n m).map V.int).set (n / 24 % ((Mk.w1 n m).length : Int)).toNat (.int (n / 200 % m)))) p = some (.lst ((Mk.w4 n m).map V.int)) := by
          rw [upd_same, e4, e3, e2, List.map_set]
        rw [if_neg (by simp; omega)]
        refine ⟨⟨by decide, by decide⟩, by decide, ?_⟩
        rw [if_neg (by simp; omega)]
        exact hk p _ hp (s1.upd_new hp) h2
    · rw [if_neg (by simp; exact c1)]
      have e2 : Mk.w2 n m = Mk.w1 n m := by unfold Mk.w2; rw [if_neg c1]
      refine ⟨⟨by decide, by decide⟩, by decide, ?_⟩
      by_cases c2 : n / 6 % 4 = 2
      · have e3 : Mk.w3 n m = Mk.digs m (Mk.w2 n m).length (n / 100) := by unfold Mk.w3; rw [if_pos c2]
        have e4 : Mk.w4 n m = Mk.w3 n m := by unfold Mk.w4; rw [if_neg (by omega)]
        rw [if_pos (decide_eq_true c2)]
        refine ⟨⟨by decide, by decide⟩, _, .l h1', _, _, _, rfl, hm, by rw [List.length_map]; omega, by rw [List.length_map]; omega, fun q H2 hq s2 h2 => ?_⟩
        ac_nf
        refine ⟨⟨by decide, by decide⟩, by decide, ?_⟩
        rw [if_neg (by simp; omega)]
        refine hk q H2 (s1.free hq) (s1.trans s2) ?_
        rw [h2, e4, e3, e2, List.length_map, Int.toNat_natCast]
      · have e3 : Mk.w3 n m = Mk.w2 n m := by unfold Mk.w3; rw [if_neg c2]
        rw [if_neg (by simp; exact c2)]
        refine ⟨⟨by decide, by decide⟩, by decide, ?_⟩
        by_cases c3 : n / 6 % 4 = 3
        · rw [if_pos (decide_eq_true c3)]
          refine ⟨⟨by decide, by decide⟩, by decide, ?_⟩
          by_cases c4 : n / 24 % 2 = 1
          · have e4 : Mk.w4 n m = List.replicate (Mk.w3 n m).length (n / 48 % m) := by unfold Mk.w4; rw [if_pos ⟨c3, c4⟩]
            rw [if_pos (decide_eq_true c4)]
            refine ⟨⟨by decide, by decide⟩, hm, by decide, fun q H2 hq s2 h2 => ?_⟩
            refine ⟨_, .l (s2 _ _ h1'), _, h2, ?_⟩
            rw [List.length_map]
            refine ⟨by omega, by omega, Nat.le_of_lt (small_line (by simp; omega)), fun r H3 hr s3 h3 => ?_⟩
            refine hk r _ ((s1.trans s2).free hr) (s1.trans (s2.trans s3)) ?_
            rw [h3, e4, e3, e2, List.map_replicate]
            congr 2
            generalize (Mk.w1 n m).length = j
            induction j with
            | zero => rfl
            | succ j ih => rw [List.replicate_succ, List.flatten_cons, ih, List.replicate_succ]; rfl
          · have e4 : Mk.w4 n m = Mk.w3 n m := by unfold Mk.w4; rw [if_neg (fun z => c4 z.2)]
            rw [if_neg (by simp; exact c4)]
            exact hk p H1 hp s1 (by rw [h1', e4, e3, e2])
        · have e4 : Mk.w4 n m = Mk.w3 n m := by unfold Mk.w4; rw [if_neg (fun z => c3 z.1)]
          rw [if_neg (by simp; exact c3)]
          exact hk p H1 hp s1 (by rw [h1', e4, e3, e2])
def sp_law (K : PySem.W.Frag) : Sp := fun vs H Q _ => ∃ (a : Addr) (ns : List Int), vs = [.ref a] ∧ SqL K H a (ns.map V.int) ∧ ns.length ≤ 63 ∧ ∀ H', Q (.bl true) H'
theorem sc_law : FnScope ["_law_script", "_law_k", "_law_alphabet_here", "_law_m", "_law_weights_here", "_law_rest", "_law_handed", "_law_found"] ["_law_script"] (defScope s_law) := ⟨rfl, rfl, rfl, by decide +kernel, rfl, by decide +kernel, by decide +kernel⟩
theorem ok_law {f : Addr} {fd : FuncData} (F : Fun K "law" "law" s_law f fd) (T : Bl mg) (AF : AdF K mg Ad) (C_law_common : Fnc P w K mg base (CX1 P w) 1 "_law_common" ["_law_weights_here", "_law_m"] sp_law_common) (C_law_safe : Fnc P w K mg base (CX1 P w) 2 "_law_safe" ["_law_weights_here", "_law_m"] sp_law_safe) (C_law_one_fault : Fnc P w K mg base (CX1 P w) 1 "_law_one_fault" ["_law_one", "_law_other"] sp_law_one_fault) (C_law_is_good : Fnc P w K mg base (CX1 P w) 2 "_law_is_good" ["_law_alphabet_here", "_law_weights_here", "_law_rest", "_law_word"] sp_law_is_good) (C_unsafe_pair : Fnc P w K mg base (CX1 P w) 3 "unsafe_pair" ["alphabet", "weights", "rest"] sp_unsafe_pair) (C_law_cell_at : Fnc P w K mg base (CX1 P w) 1 "_law_cell_at" ["_law_script", "_law_k"] (sp_law_cell_at K)) (C_law_mixed : Fnc P w K mg base (CX1 P w) 1 "_law_mixed" ["_law_cell"] sp_law_mixed) (C_law_some_weights : Fnc P w K mg base (CX1 P w) 3 "_law_some_weights" ["_law_cell", "_law_m"] sp_law_some_weights) (C_law_alphabet : Fnc P w K mg base (CX1 P w) 1 "_law_alphabet" ["_law_cell"] sp_law_alphabet) : FnOk P w K mg base (CX1 P w) 4 f fd ["_law_script"] (sp_law K) := by
  refine F.okX (k := 3) sc_law (fun vs H Q E h => ?_) (fun cdv A outer s H vs Q E hr h => ?_)
  · obtain ⟨a, ns, rfl, _⟩ := h
    rfl
  · obtain ⟨a, ns, rfl, hS, hlen, k⟩ := h
    have hu := hr.units0
    have hu1 := hu_of hr
    refine ⟨_, pss_cons (ps_for PassesOwn.leaving rfl (pi_range1G T.range (pa_c (pe_callBG (call_minX rfl) T.min bt_min (pa_c (pe_int) (pa_c (pe_callBG (call_maxX rfl) T.max bt_max (pa_c (pe_int) (pa_c (pe_callBG (call_lenK (K := K) rfl) T.len bt_len (pa_c (pvL 0) (pa_nil))) (pa_nil)))) (pa_nil)))) (pa_nil))) (pg_nameL (i := 1) sc_law.nd) (pss_cons (ps_setL (i := 2) sc_law.nd (pe_callG C_law_alphabet pass_def (hr.mono (by decide)) (pa_c (pe_callG C_law_cell_at pass_def (hr.mono (by decide)) (pa_c (pvL 0) (pa_c (pvL 1) (pa_nil)))) (pa_nil)))) (pss_cons (ps_setL (i := 3) sc_law.nd (pe_callBG (call_lenK (K := K) rfl) T.len bt_len (pa_c (pvL 2) (pa_nil)))) (pss_cons (ps_setL (i := 4) sc_law.nd (pe_callG C_law_some_weights pass_def (hr.mono (by decide)) (pa_c (pe_op op_addX (pe_op op_fdivX (pe_callG C_law_cell_at pass_def (hr.mono (by decide)) (pa_c (pvL 0) (pa_c (pvL 1) (pa_nil)))) (pe_int)) (pvL 1)) (pa_c (pvL 3) (pa_nil))))) (pss_cons (ps_setL (i := 5) sc_law.nd (pe_op op_modX (pe_callG C_law_mixed pass_def (hr.mono (by decide)) (pa_c (pe_op op_addX (pe_op op_fdivX (pe_callG C_law_cell_at pass_def (hr.mono (by decide)) (pa_c (pvL 0) (pa_c (pvL 1) (pa_nil)))) (pe_int)) (pe_op op_mulX (pe_int) (pvL 1))) (pa_nil))) (pvL 3))) (pss_cons (ps_if (pt_cmpR (op_eqK (K := K) rfl hu) (pe_op op_modX (pe_op op_fdivX (pe_callG C_law_cell_at pass_def (hr.mono (by decide)) (pa_c (pvL 0) (pa_c (pvL 1) (pa_nil)))) (pe_int)) (pe_int)) (pe_int) (nomark _)) (pss_one (ps_setL (i := 5) sc_law.nd (pe_op op_modX (pe_op op_mulX (pvL 5) (pe_callG C_law_common pass_def (hr.mono (by decide)) (pa_c (pvL 4) (pa_c (pvL 3) (pa_nil))))) (pvL 3)))) (pss_nil)) (pss_cons (ps_setL (i := 6) sc_law.nd (pe_callTyG (call_listK (K := K) rfl rfl) T.list bt_list (pa_c (pvL 4) (pa_nil)))) (pss_cons (ps_setL (i := 7) sc_law.nd (pe_callG C_unsafe_pair pass_def (hr.mono (by decide)) (pa_c (pvL 2) (pa_c (pvL 6) (pa_c (pvL 5) (pa_nil)))))) (pss_cons (ps_if (pt_cmpR (op_neK (K := K) rfl hu) (pvL 6) (pvL 4) (nomark _)) (pss_one (ps_ret (pe_bl))) (pss_nil)) (pss_one (ps_if ((pw_or (pt_val (pe_callG C_law_safe pass_def (hr.mono (by decide)) (pa_c (pvL 4) (pa_c (pvL 3) (pa_nil))))) (pw_or1 (pt_cmpR (op_neK (K := K) rfl hu) (pe_op op_modX (pvL 5) (pe_callG C_law_common pass_def (hr.mono (by decide)) (pa_c (pvL 4) (pa_c (pvL 3) (pa_nil))))) (pe_int) (nomark _)))).pt) (pss_one (ps_if (pt_cmpR op_isnotX (pvL 7) (pe_non) (nomark _)) (pss_one (ps_ret (pe_bl))) (pss_nil))) (pss_cons (ps_if ((pw_or (pt_not (pt_val (pe_callBG (call_isiC .tup) T.isinstance bt_isinstance (pa_c (pvL 7) (pa_c (pe_tyG T.tuple bt_tuple) (pa_nil)))))) (pw_or1 (pt_cmpR (op_neK (K := K) rfl hu) (pe_callBG (call_lenK (K := K) rfl) T.len bt_len (pa_c (pvL 7) (pa_nil))) (pe_int) (nomark _)))).pt) (pss_one (ps_ret (pe_bl))) (pss_nil)) (pss_cons (ps_if (pt_not (pt_val (pe_callG C_law_is_good pass_def (hr.mono (by decide)) (pa_c (pvL 2) (pa_c (pvL 4) (pa_c (pvL 5) (pa_c (pe_ix (ix_K (K := K) rfl) (pvL 7) (pe_int) (fun _ _ => rfl)) (pa_nil)))))))) (pss_one (ps_ret (pe_bl))) (pss_nil)) (pss_one (ps_if ((pw_or (pt_not (pt_val (pe_callG C_law_is_good pass_def (hr.mono (by decide)) (pa_c (pvL 2) (pa_c (pvL 4) (pa_c (pvL 5) (pa_c (pe_ix (ix_K (K := K) rfl) (pvL 7) (pe_int) (fun _ _ => rfl)) (pa_nil)))))))) (pw_or1 (pt_not (pt_val (pe_callG C_law_one_fault pass_def (hr.mono (by decide)) (pa_c (pe_ix (ix_K (K := K) rfl) (pvL 7) (pe_int) (fun _ _ => rfl)) (pa_c (pe_ix (ix_K (K := K) rfl) (pvL 7) (pe_int) (fun _ _ => rfl)) (pa_nil)))))))).pt) (pss_one (ps_ret (pe_bl))) (pss_nil)))))))))))))))) (pss_one (ps_ret (pe_bl))), ?_⟩
    have big : ∀ {u : Nat}, u ≤ 1000 → u ≤ sizeLine := fun hu => Nat.le_of_lt (small_line (by omega))
    refine seq_go fun nn hN => ?_
    and_intros
    refine ⟨_, .inl hS, ?_⟩
    rw [List.length_map]
    refine ⟨by omega, by omega, ?_⟩
    generalize hnn : (min 20 (max 1 (ns.length : Int))).toNat = n2
    refine for_rngO (n := n2) (fun i σ H' => (∃ o1 o2 o3 o4 o5 o6 o7, σ = [some (.ref a), o1, o2, o3, o4, o5, o6, o7]) ∧ Same H H') ?_ ?_ ?_
    · exact ⟨⟨_, _, _, _, _, _, _, rfl⟩, Same.refl _⟩
    · rintro i σ H1 hi ⟨⟨o1, o2, o3, o4, o5, o6, o7, rfl⟩, t1⟩ N hNx
      clear hN
      and_intros
      refine seq_go fun nw2 hW => ?_
      and_intros
      refine ⟨a, ns, 0 + (i : Int), rfl, t1.seq hS, by omega, ?_⟩
      refine ⟨_, rfl, fun H2 s2 => ?_⟩
      generalize hcl : ns.getD (0 + (i : Int)).toNat 0 = cell
      obtain ⟨g3, g26⟩ := Mk.alpha_bounds cell
      have nd := Mk.alpha_nodup cell
      generalize Mk.alpha cell = al at g3 g26 nd
      have t2 := t1.trans s2
      have m0 : (0 : Int) < (al.length : Int) := by omega
      rw [hW]
      clear hW nw2 s2 t1
      refine seq_go fun nw2 hW => ?_
      and_intros
      rw [tx_len]
      refine ⟨big (by omega), ?_⟩
      rw [hW]
      clear hW nw2
      refine seq_go fun nw2 hW => ?_
      and_intros
      refine ⟨a, ns, 0 + (i : Int), rfl, t2.seq hS, by omega, ?_⟩
      rw [hcl]
      and_intros
      refine ⟨⟨by decide, by decide⟩, _, _, rfl, m0, by omega, fun pw H3 zw s3 hw => ?_⟩
      obtain ⟨w3, w8⟩ := Mk.someW_bounds (cell / 3 + (0 + (i : Int))) (al.length : Int)
      have hwb := Mk.someW_mem (c := cell / 3 + (0 + (i : Int))) m0
      generalize Mk.someW (cell / 3 + (0 + (i : Int))) (al.length : Int) = ws at hw w3 w8 hwb
      have hws : Mk.sml ws := fun x hx => by have := hwb x hx; omega
      have hw0 : ∀ w ∈ ws, 0 ≤ w := fun w h => (hwb w h).1
      have t3 := t2.trans s3
      have hG := Mk.gAll_dvd ws (al.length : Int)
      have hG0 := gAll_nn ws (al.length : Int) (by omega)
      have hGm : Mk.gAll (al.length : Int) ws ≤ (al.length : Int) := Int.le_of_dvd m0 hG.1
      have hG1 : 0 < Mk.gAll (al.length : Int) ws := by
        rcases Int.lt_or_eq_of_le hG0 with h | h
        · exact h
        · have := hG.1; rw [← h] at this; have := Int.zero_dvd.mp this; omega
      rw [hW]
      clear hW nw2 s3 t2 zw
      refine seq_go fun nw2 hW => ?_
      and_intros
      refine ⟨a, ns, 0 + (i : Int), rfl, t3.seq hS, by omega, ?_⟩
      rw [hcl]
      and_intros
      refine ⟨⟨by decide, by decide⟩, ?_⟩
      refine ⟨cbig_small (by omega) (by omega), _, rfl, ?_⟩
      and_intros
      refine ⟨m0, ?_⟩
      have r0 := Int.emod_nonneg (Mk.mixed (cell / 7 + 11 * (0 + (i : Int)))) (show (al.length : Int) ≠ 0 by omega)
      have r1 := Int.emod_lt_of_pos (Mk.mixed (cell / 7 + 11 * (0 + (i : Int)))) m0
      generalize Mk.mixed (cell / 7 + 11 * (0 + (i : Int))) % (al.length : Int) = rr at r0 r1
      rw [hW]
      clear hW nw2
      refine cut_seq (fun σ H' => H' = H3 ∧ ∃ r : Int, (0 ≤ r ∧ r < (al.length : Int)) ∧ σ = [some (.ref a), some (.int (0 + (i : Int))), some (.str (tx al)), some (.int (al.length : Int)), some (.ref pw), some (.int r), o6, o7]) ?_ ?_
      · rintro σ H' ⟨rfl, r, hrb, rfl⟩
        refine seq_go fun nw2 hW => ?_
        and_intros
        refine ⟨_, .inl (.l hw), fun ph H4 zh s4 hh => ?_⟩
        have t4 := t3.trans s4
        have hw4 := s4 _ _ hw
        rw [hW]
        clear hW nw2
        refine seq_go fun nw2 hW => ?_
        and_intros
        refine ⟨al, ph, ws, r, rfl, g3, g26, hh, w3, w8, hwb, fun ps qs t H5 okp okq gp gq flt ns s5 ht => ?_, fun H5 s5 hcase => ?_⟩
        · rw [hW]
          clear hW nw2
          have hw5 := s5 _ _ hw4
          have hh5 := s5 _ _ hh
          refine seq_go fun nw2 hW => ?_
          and_intros
          refine ⟨_, _, .of hh5, .of hw5, flat_ints ws, flat_ints ws, ?_⟩
          rw [eqVs_self]
          bv_omega
          rw [hW]
          clear hW nw2
          and_intros
          refine ⟨pw, ws, _, rfl, hw5, by omega, by omega, ?_⟩
          rw [ns]
          bv_omega
          refine ⟨pw, ws, _, rfl, hw5, hw0, by omega, ?_⟩
          and_intros
          refine ⟨hG1, ?_⟩
          rw [Mk.good_gAll gp, if_neg (by decide)]
          have tgT : ∀ {H'}, Same H5 H' → tagV H' (.ref t) = some Tg.tup := fun s => by
            show tagO _ = _
            rw [s _ _ ht]; rfl
          have a0 : atI [V.str (tx (Mk.spell al ps)), V.str (tx (Mk.spell al qs))] 0 = some (.str (tx (Mk.spell al ps))) := atI_nat (xs := [V.str (tx (Mk.spell al ps)), V.str (tx (Mk.spell al qs))]) (j := 0) rfl
          have a1 : atI [V.str (tx (Mk.spell al ps)), V.str (tx (Mk.spell al qs))] 1 = some (.str (tx (Mk.spell al qs))) := atI_nat (xs := [V.str (tx (Mk.spell al ps)), V.str (tx (Mk.spell al qs))]) (j := 1) rfl
          refine seq_go fun nw2 hW => ?_
          and_intros
          refine ⟨trivial, Tg.tup, tgT (Same.refl _), ?_⟩
          and_intros
          refine ⟨_, .t ht, ?_⟩
          rw [if_neg (show ¬ (!decide ((([V.str (tx (Mk.spell al ps)), V.str (tx (Mk.spell al qs))].length : Nat) : Int) = 2)) = true from by show ¬ (!decide (((2 : Nat) : Int) = 2)) = true; decide), hW]
          clear hW nw2
          refine seq_go fun nw2 hW => ?_
          and_intros
          refine ⟨_, _, .t ht, a0, ?_⟩
          refine ⟨al, pw, ws, r, ps, rfl, nd, g3, g26, hw5, w8, hws, okp, fun H6 s6 => ?_⟩
          rw [decide_eq_true gp]
          and_intros
          rw [hW]
          clear hW nw2
          and_intros
          refine ⟨_, _, .t (s6 _ _ ht), a1, ?_⟩
          refine ⟨al, pw, ws, r, qs, rfl, nd, g3, g26, s6 _ _ hw5, w8, hws, okq, fun H7 s7 => ?_⟩
          rw [decide_eq_true gq]
          and_intros
          have s67 := s6.trans s7
          refine ⟨_, _, .t (s67 _ _ ht), a0, _, _, .t (s67 _ _ ht), a1, ?_⟩
          refine ⟨al, ps, qs, rfl, nd, g26, by rw [okp.1]; exact okp, by rw [okp.1]; exact okq, by rw [okp.1]; exact w8, flt, fun H8 s8 => ?_⟩
          and_intros
          exact hNx _ _ ⟨⟨_, _, _, _, _, _, _, rfl⟩, t4.trans (s5.trans (s67.trans s8))⟩
        · rw [hW]
          clear hW nw2
          have hw5 := s5 _ _ hw4
          have hh5 := s5 _ _ hh
          refine seq_go fun nw2 hW => ?_
          and_intros
          refine ⟨_, _, .of hh5, .of hw5, flat_ints ws, flat_ints ws, ?_⟩
          rw [eqVs_self]
          bv_omega
          rw [hW]
          clear hW nw2
          and_intros
          refine ⟨pw, ws, _, rfl, hw5, by omega, by omega, ?_⟩
          cases hs : Mk.safe (al.length : Int) ws with
          | true =>
            refine ⟨true, rfl, ?_⟩
            rw [if_pos rfl]
            exact hNx _ _ ⟨⟨_, _, _, _, _, _, _, rfl⟩, t4.trans s5⟩
          | false =>
            refine ⟨false, rfl, ?_⟩
            rw [if_neg (by decide)]
            refine ⟨pw, ws, _, rfl, hw5, hw0, by omega, ?_⟩
            and_intros
            have hne : r % Mk.gAll (al.length : Int) ws ≠ 0 := fun h => by
              rcases hcase with h1 | h1
              · rw [hs] at h1; cases h1
              · obtain ⟨ps, f1, f2, f3⟩ := Mk.good_exists m0 hw0 h
                exact h1 ps ⟨f1, f2⟩ f3
            refine ⟨hG1, ?_⟩
            rw [decide_eq_false hne, if_pos (by decide)]
            exact hNx _ _ ⟨⟨_, _, _, _, _, _, _, rfl⟩, t4.trans s5⟩
      · intro U hU
        and_intros
        refine ⟨a, ns, 0 + (i : Int), rfl, t3.seq hS, by omega, ?_⟩
        rw [hcl]
        and_intros
        refine ⟨⟨by decide, by decide⟩, by decide, ?_⟩
        by_cases hc5 : cell / 5 % 2 = 1
        · rw [if_pos (decide_eq_true hc5)]
          refine ⟨pw, ws, _, rfl, hw, hw0, by omega, ?_⟩
          and_intros
          refine ⟨cbig_small (by omega) (by omega), m0, hU _ _ ⟨rfl, _, ⟨Int.emod_nonneg _ (by omega), Int.emod_lt_of_pos _ m0⟩, rfl⟩⟩
        · rw [if_neg (by simpa using hc5)]
          exact hU _ _ ⟨rfl, rr, ⟨r0, r1⟩, rfl⟩
    · rintro σ H1 ⟨⟨o1, o2, o3, o4, o5, o6, o7, rfl⟩, t1⟩
      show nn _ _ _
      rw [hN]
      and_intros
      exact k _
end
theorem all_mk {l : PySem.W.OpenLaw} {w : World} {K : PySem.W.Frag} {h : Heap} {mg : Str → Option Value} {fa : Addr}  {f0 f1 f2 f3 f4 f5 f6 f7 f8 f9 f10 f11 f12 f13 f14 f15 f16 f17 f18 : Addr} (X : K.In h) (G : h.Ns mainGlobals mg) (hfa : mg "law" = some (.ref fa))
    {od0 an0 od1 an1 od2 an2 od3 an3 od4 an4 od5 an5 od6 an6 od7 an7 od8 an8 od9 an9 od10 an10 od11 an11 od12 an12 od13 an13 od14 an14 od15 an15 od16 an16 od17 an17 od18 an18 : Option Addr} {sl0 sl1 sl2 sl3 sl4 sl5 sl6 sl7 sl8 sl9 sl10 sl11 sl12 sl13 sl14 sl15 sl16 sl17 sl18 : Array (Option Value)} {oc0 kV0 dc0 pm0 cd0 ct0 oc1 kV1 dc1 pm1 cd1 ct1 oc2 kV2 dc2 pm2 cd2 ct2 oc3 kV3 dc3 pm3 cd3 ct3 oc4 kV4 dc4 pm4 cd4 ct4 oc5 kV5 dc5 pm5 cd5 ct5 oc6 kV6 dc6 pm6 cd6 ct6 oc7 kV7 dc7 pm7 cd7 ct7 oc8 kV8 dc8 pm8 cd8 ct8 oc9 kV9 dc9 pm9 cd9 ct9 oc10 kV10 dc10 pm10 cd10 ct10 oc11 kV11 dc11 pm11 cd11 ct11 oc12 kV12 dc12 pm12 cd12 ct12 oc13 kV13 dc13 pm13 cd13 ct13 oc14 kV14 dc14 pm14 cd14 ct14 oc15 kV15 dc15 pm15 cd15 ct15 oc16 kV16 dc16 pm16 cd16 ct16 oc17 kV17 dc17 pm17 cd17 ct17 oc18 kV18 dc18 pm18 cd18 ct18 : Value}
    (a0 : PySem.W.nsIn K mainGlobals "common_divisor" = some (some (.ref f0)))
    (l0 : K.lookup f0 = some ⟨oc0, od0, .func (PySem.W.fnOf "common_divisor" "common_divisor" (defArgs s_common_divisor) (defBody s_common_divisor) (defScope s_common_divisor) .none kV0 dc0 pm0 an0 cd0 ct0), sl0⟩)
    (c0 : PySem.W.codeIn K cd0 "common_divisor" = true)
    (k0 : PySem.W.keepIn K (.ref f0) = true)
    (a1 : PySem.W.nsIn K mainGlobals "spelled" = some (some (.ref f1)))
    (l1 : K.lookup f1 = some ⟨oc1, od1, .func (PySem.W.fnOf "spelled" "spelled" (defArgs s_spelled) (defBody s_spelled) (defScope s_spelled) .none kV1 dc1 pm1 an1 cd1 ct1), sl1⟩)
    (c1 : PySem.W.codeIn K cd1 "spelled" = true)
    (k1 : PySem.W.keepIn K (.ref f1) = true)
    (a2 : PySem.W.nsIn K mainGlobals "good_places" = some (some (.ref f2)))
    (l2 : K.lookup f2 = some ⟨oc2, od2, .func (PySem.W.fnOf "good_places" "good_places" (defArgs s_good_places) (defBody s_good_places) (defScope s_good_places) .none kV2 dc2 pm2 an2 cd2 ct2), sl2⟩)
    (c2 : PySem.W.codeIn K cd2 "good_places" = true)
    (k2 : PySem.W.keepIn K (.ref f2) = true)
    (a3 : PySem.W.nsIn K mainGlobals "pair_by_exchange" = some (some (.ref f3)))
    (l3 : K.lookup f3 = some ⟨oc3, od3, .func (PySem.W.fnOf "pair_by_exchange" "pair_by_exchange" (defArgs s_pair_by_exchange) (defBody s_pair_by_exchange) (defScope s_pair_by_exchange) .none kV3 dc3 pm3 an3 cd3 ct3), sl3⟩)
    (c3 : PySem.W.codeIn K cd3 "pair_by_exchange" = true)
    (k3 : PySem.W.keepIn K (.ref f3) = true)
    (a4 : PySem.W.nsIn K mainGlobals "pair_by_swap" = some (some (.ref f4)))
    (l4 : K.lookup f4 = some ⟨oc4, od4, .func (PySem.W.fnOf "pair_by_swap" "pair_by_swap" (defArgs s_pair_by_swap) (defBody s_pair_by_swap) (defScope s_pair_by_swap) .none kV4 dc4 pm4 an4 cd4 ct4), sl4⟩)
    (c4 : PySem.W.codeIn K cd4 "pair_by_swap" = true)
    (k4 : PySem.W.keepIn K (.ref f4) = true)
    (a5 : PySem.W.nsIn K mainGlobals "unsafe_pair" = some (some (.ref f5)))
    (l5 : K.lookup f5 = some ⟨oc5, od5, .func (PySem.W.fnOf "unsafe_pair" "unsafe_pair" (defArgs s_unsafe_pair) (defBody s_unsafe_pair) (defScope s_unsafe_pair) .none kV5 dc5 pm5 an5 cd5 ct5), sl5⟩)
    (c5 : PySem.W.codeIn K cd5 "unsafe_pair" = true)
    (k5 : PySem.W.keepIn K (.ref f5) = true)
    (a6 : PySem.W.nsIn K mainGlobals "_law_cell_at" = some (some (.ref f6)))
    (l6 : K.lookup f6 = some ⟨oc6, od6, .func (PySem.W.fnOf "_law_cell_at" "_law_cell_at" (defArgs s_law_cell_at) (defBody s_law_cell_at) (defScope s_law_cell_at) .none kV6 dc6 pm6 an6 cd6 ct6), sl6⟩)
    (c6 : PySem.W.codeIn K cd6 "_law_cell_at" = true)
    (k6 : PySem.W.keepIn K (.ref f6) = true)
    (a7 : PySem.W.nsIn K mainGlobals "_law_mixed" = some (some (.ref f7)))
    (l7 : K.lookup f7 = some ⟨oc7, od7, .func (PySem.W.fnOf "_law_mixed" "_law_mixed" (defArgs s_law_mixed) (defBody s_law_mixed) (defScope s_law_mixed) .none kV7 dc7 pm7 an7 cd7 ct7), sl7⟩)
    (c7 : PySem.W.codeIn K cd7 "_law_mixed" = true)
    (k7 : PySem.W.keepIn K (.ref f7) = true)
    (a8 : PySem.W.nsIn K mainGlobals "_law_alphabet" = some (some (.ref f8)))
    (l8 : K.lookup f8 = some ⟨oc8, od8, .func (PySem.W.fnOf "_law_alphabet" "_law_alphabet" (defArgs s_law_alphabet) (defBody s_law_alphabet) (defScope s_law_alphabet) .none kV8 dc8 pm8 an8 cd8 ct8), sl8⟩)
    (c8 : PySem.W.codeIn K cd8 "_law_alphabet" = true)
    (k8 : PySem.W.keepIn K (.ref f8) = true)
    (a9 : PySem.W.nsIn K mainGlobals "_law_apart" = some (some (.ref f9)))
    (l9 : K.lookup f9 = some ⟨oc9, od9, .func (PySem.W.fnOf "_law_apart" "_law_apart" (defArgs s_law_apart) (defBody s_law_apart) (defScope s_law_apart) .none kV9 dc9 pm9 an9 cd9 ct9), sl9⟩)
    (c9 : PySem.W.codeIn K cd9 "_law_apart" = true)
    (k9 : PySem.W.keepIn K (.ref f9) = true)
    (a10 : PySem.W.nsIn K mainGlobals "_law_safe" = some (some (.ref f10)))
    (l10 : K.lookup f10 = some ⟨oc10, od10, .func (PySem.W.fnOf "_law_safe" "_law_safe" (defArgs s_law_safe) (defBody s_law_safe) (defScope s_law_safe) .none kV10 dc10 pm10 an10 cd10 ct10), sl10⟩)
    (c10 : PySem.W.codeIn K cd10 "_law_safe" = true)
    (k10 : PySem.W.keepIn K (.ref f10) = true)
    (a11 : PySem.W.nsIn K mainGlobals "_law_weights" = some (some (.ref f11)))
    (l11 : K.lookup f11 = some ⟨oc11, od11, .func (PySem.W.fnOf "_law_weights" "_law_weights" (defArgs s_law_weights) (defBody s_law_weights) (defScope s_law_weights) .none kV11 dc11 pm11 an11 cd11 ct11), sl11⟩)
    (c11 : PySem.W.codeIn K cd11 "_law_weights" = true)
    (k11 : PySem.W.keepIn K (.ref f11) = true)
    (a12 : PySem.W.nsIn K mainGlobals "_law_digits" = some (some (.ref f12)))
    (l12 : K.lookup f12 = some ⟨oc12, od12, .func (PySem.W.fnOf "_law_digits" "_law_digits" (defArgs s_law_digits) (defBody s_law_digits) (defScope s_law_digits) .none kV12 dc12 pm12 an12 cd12 ct12), sl12⟩)
    (c12 : PySem.W.codeIn K cd12 "_law_digits" = true)
    (k12 : PySem.W.keepIn K (.ref f12) = true)
    (a13 : PySem.W.nsIn K mainGlobals "_law_some_weights" = some (some (.ref f13)))
    (l13 : K.lookup f13 = some ⟨oc13, od13, .func (PySem.W.fnOf "_law_some_weights" "_law_some_weights" (defArgs s_law_some_weights) (defBody s_law_some_weights) (defScope s_law_some_weights) .none kV13 dc13 pm13 an13 cd13 ct13), sl13⟩)
    (c13 : PySem.W.codeIn K cd13 "_law_some_weights" = true)
    (k13 : PySem.W.keepIn K (.ref f13) = true)
    (a14 : PySem.W.nsIn K mainGlobals "_law_sum" = some (some (.ref f14)))
    (l14 : K.lookup f14 = some ⟨oc14, od14, .func (PySem.W.fnOf "_law_sum" "_law_sum" (defArgs s_law_sum) (defBody s_law_sum) (defScope s_law_sum) .none kV14 dc14 pm14 an14 cd14 ct14), sl14⟩)
    (c14 : PySem.W.codeIn K cd14 "_law_sum" = true)
    (k14 : PySem.W.keepIn K (.ref f14) = true)
    (a15 : PySem.W.nsIn K mainGlobals "_law_common" = some (some (.ref f15)))
    (l15 : K.lookup f15 = some ⟨oc15, od15, .func (PySem.W.fnOf "_law_common" "_law_common" (defArgs s_law_common) (defBody s_law_common) (defScope s_law_common) .none kV15 dc15 pm15 an15 cd15 ct15), sl15⟩)
    (c15 : PySem.W.codeIn K cd15 "_law_common" = true)
    (k15 : PySem.W.keepIn K (.ref f15) = true)
    (a16 : PySem.W.nsIn K mainGlobals "_law_is_good" = some (some (.ref f16)))
    (l16 : K.lookup f16 = some ⟨oc16, od16, .func (PySem.W.fnOf "_law_is_good" "_law_is_good" (defArgs s_law_is_good) (defBody s_law_is_good) (defScope s_law_is_good) .none kV16 dc16 pm16 an16 cd16 ct16), sl16⟩)
    (c16 : PySem.W.codeIn K cd16 "_law_is_good" = true)
    (k16 : PySem.W.keepIn K (.ref f16) = true)
    (a17 : PySem.W.nsIn K mainGlobals "_law_one_fault" = some (some (.ref f17)))
    (l17 : K.lookup f17 = some ⟨oc17, od17, .func (PySem.W.fnOf "_law_one_fault" "_law_one_fault" (defArgs s_law_one_fault) (defBody s_law_one_fault) (defScope s_law_one_fault) .none kV17 dc17 pm17 an17 cd17 ct17), sl17⟩)
    (c17 : PySem.W.codeIn K cd17 "_law_one_fault" = true)
    (k17 : PySem.W.keepIn K (.ref f17) = true)
    (a18 : PySem.W.nsIn K mainGlobals "law" = some (some (.ref f18)))
    (l18 : K.lookup f18 = some ⟨oc18, od18, .func (PySem.W.fnOf "law" "law" (defArgs s_law) (defBody s_law) (defScope s_law) .none kV18 dc18 pm18 an18 cd18 ct18), sl18⟩)
    (c18 : PySem.W.codeIn K cd18 "law" = true)
    (k18 : PySem.W.keepIn K (.ref f18) = true)
    (z_abs : PySem.W.nsIn K mainGlobals "abs" = some none)
    (z_enumerate : PySem.W.nsIn K mainGlobals "enumerate" = some none)
    (z_list : PySem.W.nsIn K mainGlobals "list" = some none)
    (z_range : PySem.W.nsIn K mainGlobals "range" = some none)
    (z_len : PySem.W.nsIn K mainGlobals "len" = some none)
    (z_isinstance : PySem.W.nsIn K mainGlobals "isinstance" = some none)
    (z_str : PySem.W.nsIn K mainGlobals "str" = some none)
    (z_min : PySem.W.nsIn K mainGlobals "min" = some none)
    (z_max : PySem.W.nsIn K mainGlobals "max" = some none)
    (z_tuple : PySem.W.nsIn K mainGlobals "tuple" = some none)
    : ∃ fd : FuncData, (∀ (s : Shared) (v : Value), BindsTo s fd ⟨[v], []⟩ [("_law_script", v)]) ∧ ∀ base : Heap, K.In base → base.Ns mainGlobals mg → FnOk l.prog w K mg base (CX1 l.prog w) 4 fa fd ["_law_script"] (sp_law K) := by
  have e := hfa.symm.trans (PySem.W.mg_of X G a18)
  cases e
  have T : Bl mg := ⟨PySem.W.mg_none_of X G z_abs, PySem.W.mg_none_of X G z_enumerate, PySem.W.mg_none_of X G z_list, PySem.W.mg_none_of X G z_range, PySem.W.mg_none_of X G z_len, PySem.W.mg_none_of X G z_isinstance, PySem.W.mg_none_of X G z_str, PySem.W.mg_none_of X G z_min, PySem.W.mg_none_of X G z_max, PySem.W.mg_none_of X G z_tuple⟩
  have AF : AdF K mg ⟨()⟩ := {}
  have F0 := fun_mk (st := s_common_divisor) l0 c0 k0
  have F1 := fun_mk (st := s_spelled) l1 c1 k1
  have F2 := fun_mk (st := s_good_places) l2 c2 k2
  have F3 := fun_mk (st := s_pair_by_exchange) l3 c3 k3
  have F4 := fun_mk (st := s_pair_by_swap) l4 c4 k4
  have F5 := fun_mk (st := s_unsafe_pair) l5 c5 k5
  have F6 := fun_mk (st := s_law_cell_at) l6 c6 k6
  have F7 := fun_mk (st := s_law_mixed) l7 c7 k7
  have F8 := fun_mk (st := s_law_alphabet) l8 c8 k8
  have F9 := fun_mk (st := s_law_apart) l9 c9 k9
  have F10 := fun_mk (st := s_law_safe) l10 c10 k10
  have F11 := fun_mk (st := s_law_weights) l11 c11 k11
  have F12 := fun_mk (st := s_law_digits) l12 c12 k12
  have F13 := fun_mk (st := s_law_some_weights) l13 c13 k13
  have F14 := fun_mk (st := s_law_sum) l14 c14 k14
  have F15 := fun_mk (st := s_law_common) l15 c15 k15
  have F16 := fun_mk (st := s_law_is_good) l16 c16 k16
  have F17 := fun_mk (st := s_law_one_fault) l17 c17 k17
  have F18 := fun_mk (st := s_law) l18 c18 k18
  refine ⟨PySem.W.fnOf "law" "law" (defArgs s_law) (defBody s_law) (defScope s_law) .none kV18 dc18 pm18 an18 cd18 ct18, fun s v => .of_eq rfl, fun base _ _ => ?_⟩
  have b0 := F0.binds (ps := ["one", "other"]) fun _ _ _ _ _ _ us hl => match us, hl with | [_, _], _ => rfl
  have C_common_divisor : Fnc l.prog w K mg base (CX1 l.prog w) 1 "common_divisor" ["one", "other"] sp_common_divisor := ⟨f0, _, ok_common_divisor F0 T AF , PySem.W.mg_of X G a0, k0, b0⟩
  have b1 := F1.binds (ps := ["alphabet", "places"]) fun _ _ _ _ _ _ us hl => match us, hl with | [_, _], _ => rfl
  have C_spelled : Fnc l.prog w K mg base (CX1 l.prog w) 1 "spelled" ["alphabet", "places"] sp_spelled := ⟨f1, _, ok_spelled F1 T AF , PySem.W.mg_of X G a1, k1, b1⟩
  have b2 := F2.binds (ps := ["m", "weights", "rest", "fixed"]) fun _ _ _ _ _ _ us hl => match us, hl with | [_, _, _, _], _ => rfl
  have C_good_places : Fnc l.prog w K mg base (CX1 l.prog w) 1 "good_places" ["m", "weights", "rest", "fixed"] sp_good_places := ⟨f2, _, ok_good_places F2 T AF , PySem.W.mg_of X G a2, k2, b2⟩
  have b6 := F6.binds (ps := ["_law_script", "_law_k"]) fun _ _ _ _ _ _ us hl => match us, hl with | [_, _], _ => rfl
  have C_law_cell_at : Fnc l.prog w K mg base (CX1 l.prog w) 1 "_law_cell_at" ["_law_script", "_law_k"] (sp_law_cell_at K) := ⟨f6, _, ok_law_cell_at F6 T AF , PySem.W.mg_of X G a6, k6, b6⟩
  have b7 := F7.binds (ps := ["_law_cell"]) fun _ _ _ _ _ _ us hl => match us, hl with | [_], _ => rfl
  have C_law_mixed : Fnc l.prog w K mg base (CX1 l.prog w) 1 "_law_mixed" ["_law_cell"] sp_law_mixed := ⟨f7, _, ok_law_mixed F7 T AF , PySem.W.mg_of X G a7, k7, b7⟩
  have b8 := F8.binds (ps := ["_law_cell"]) fun _ _ _ _ _ _ us hl => match us, hl with | [_], _ => rfl
  have C_law_alphabet : Fnc l.prog w K mg base (CX1 l.prog w) 1 "_law_alphabet" ["_law_cell"] sp_law_alphabet := ⟨f8, _, ok_law_alphabet F8 T AF , PySem.W.mg_of X G a8, k8, b8⟩
  have b9 := F9.binds (ps := ["_law_number", "_law_m"]) fun _ _ _ _ _ _ us hl => match us, hl with | [_, _], _ => rfl
  have C_law_apart : Fnc l.prog w K mg base (CX1 l.prog w) 1 "_law_apart" ["_law_number", "_law_m"] sp_law_apart := ⟨f9, _, ok_law_apart F9 T AF , PySem.W.mg_of X G a9, k9, b9⟩
  have b12 := F12.binds (ps := ["_law_number", "_law_m", "_law_many"]) fun _ _ _ _ _ _ us hl => match us, hl with | [_, _, _], _ => rfl
  have C_law_digits : Fnc l.prog w K mg base (CX1 l.prog w) 1 "_law_digits" ["_law_number", "_law_m", "_law_many"] sp_law_digits := ⟨f12, _, ok_law_digits F12 T AF , PySem.W.mg_of X G a12, k12, b12⟩
  have b14 := F14.binds (ps := ["_law_weights_here", "_law_places"]) fun _ _ _ _ _ _ us hl => match us, hl with | [_, _], _ => rfl
  have C_law_sum : Fnc l.prog w K mg base (CX1 l.prog w) 1 "_law_sum" ["_law_weights_here", "_law_places"] sp_law_sum := ⟨f14, _, ok_law_sum F14 T AF , PySem.W.mg_of X G a14, k14, b14⟩
  have b15 := F15.binds (ps := ["_law_weights_here", "_law_m"]) fun _ _ _ _ _ _ us hl => match us, hl with | [_, _], _ => rfl
  have C_law_common : Fnc l.prog w K mg base (CX1 l.prog w) 1 "_law_common" ["_law_weights_here", "_law_m"] sp_law_common := ⟨f15, _, ok_law_common F15 T AF , PySem.W.mg_of X G a15, k15, b15⟩
  have b17 := F17.binds (ps := ["_law_one", "_law_other"]) fun _ _ _ _ _ _ us hl => match us, hl with | [_, _], _ => rfl
  have C_law_one_fault : Fnc l.prog w K mg base (CX1 l.prog w) 1 "_law_one_fault" ["_law_one", "_law_other"] sp_law_one_fault := ⟨f17, _, ok_law_one_fault F17 T AF , PySem.W.mg_of X G a17, k17, b17⟩
  have b3 := F3.binds (ps := ["m", "weights", "places"]) fun _ _ _ _ _ _ us hl => match us, hl with | [_, _, _], _ => rfl
  have C_pair_by_exchange : Fnc l.prog w K mg base (CX1 l.prog w) 2 "pair_by_exchange" ["m", "weights", "places"] sp_pair_by_exchange := ⟨f3, _, ok_pair_by_exchange F3 T AF C_common_divisor, PySem.W.mg_of X G a3, k3, b3⟩
  have b4 := F4.binds (ps := ["m", "weights", "rest"]) fun _ _ _ _ _ _ us hl => match us, hl with | [_, _, _], _ => rfl
  have C_pair_by_swap : Fnc l.prog w K mg base (CX1 l.prog w) 2 "pair_by_swap" ["m", "weights", "rest"] sp_pair_by_swap := ⟨f4, _, ok_pair_by_swap F4 T AF C_good_places C_common_divisor, PySem.W.mg_of X G a4, k4, b4⟩
  have b10 := F10.binds (ps := ["_law_weights_here", "_law_m"]) fun _ _ _ _ _ _ us hl => match us, hl with | [_, _], _ => rfl
  have C_law_safe : Fnc l.prog w K mg base (CX1 l.prog w) 2 "_law_safe" ["_law_weights_here", "_law_m"] sp_law_safe := ⟨f10, _, ok_law_safe F10 T AF C_law_apart, PySem.W.mg_of X G a10, k10, b10⟩
  have b11 := F11.binds (ps := ["_law_cell", "_law_m", "_law_many"]) fun _ _ _ _ _ _ us hl => match us, hl with | [_, _, _], _ => rfl
  have C_law_weights : Fnc l.prog w K mg base (CX1 l.prog w) 2 "_law_weights" ["_law_cell", "_law_m", "_law_many"] sp_law_weights := ⟨f11, _, ok_law_weights F11 T AF C_law_apart, PySem.W.mg_of X G a11, k11, b11⟩
  have b16 := F16.binds (ps := ["_law_alphabet_here", "_law_weights_here", "_law_rest", "_law_word"]) fun _ _ _ _ _ _ us hl => match us, hl with | [_, _, _, _], _ => rfl
  have C_law_is_good : Fnc l.prog w K mg base (CX1 l.prog w) 2 "_law_is_good" ["_law_alphabet_here", "_law_weights_here", "_law_rest", "_law_word"] sp_law_is_good := ⟨f16, _, ok_law_is_good F16 T AF C_law_sum, PySem.W.mg_of X G a16, k16, b16⟩
  have b5 := F5.binds (ps := ["alphabet", "weights", "rest"]) fun _ _ _ _ _ _ us hl => match us, hl with | [_, _, _], _ => rfl
  have C_unsafe_pair : Fnc l.prog w K mg base (CX1 l.prog w) 3 "unsafe_pair" ["alphabet", "weights", "rest"] sp_unsafe_pair := ⟨f5, _, ok_unsafe_pair F5 T AF C_spelled C_pair_by_swap C_pair_by_exchange C_good_places, PySem.W.mg_of X G a5, k5, b5⟩
  have b13 := F13.binds (ps := ["_law_cell", "_law_m"]) fun _ _ _ _ _ _ us hl => match us, hl with | [_, _], _ => rfl
  have C_law_some_weights : Fnc l.prog w K mg base (CX1 l.prog w) 3 "_law_some_weights" ["_law_cell", "_law_m"] sp_law_some_weights := ⟨f13, _, ok_law_some_weights F13 T AF C_law_digits C_law_weights C_law_mixed, PySem.W.mg_of X G a13, k13, b13⟩
  exact ok_law F18 T AF C_law_common C_law_safe C_law_one_fault C_law_is_good C_unsafe_pair C_law_cell_at C_law_mixed C_law_some_weights C_law_alphabet
end Kb
open PySem PySem.W PyProof.Rows
set_option maxRecDepth 100000 in
set_option maxHeartbeats 0 in
theorem PySem.Challenge.cw_cablehouse_k03_pairs_a_fault_apart_holds : PySem.Challenge.rw_cablehouse_k03_pairs_a_fault_apart.Holds := by
  w_on; o_law; k_head; (case hw => w_witness2)
  k_fill
  refine L2.walk_of (l := PySem.Challenge.rw_cablehouse_k03_pairs_a_fault_apart) (n := 63) (k := 4) (x := "_law_script") (CX := fun w => L2.CX1 PySem.Challenge.rw_cablehouse_k03_pairs_a_fault_apart.prog w) (sp := fun w => Kb.sp_law _) rfl (by decide) rfl ⟨rfl, by decide, by decide⟩ (fun w h Y => PySem.W.kIn_of Y) ?F (fun _ _ a ns hl _ hS => ⟨a, ns, rfl, hS, hl, fun _ => rfl⟩) fun _ _ _ _ _ z => L2.cx1_false z
  case F =>
    intro w mg fa h KX G hmg
    refine' Kb.all_mk KX G hmg ?a0 ?l0 ?c0 ?k0 ?a1 ?l1 ?c1 ?k1 ?a2 ?l2 ?c2 ?k2 ?a3 ?l3 ?c3 ?k3 ?a4 ?l4 ?c4 ?k4 ?a5 ?l5 ?c5 ?k5 ?a6 ?l6 ?c6 ?k6 ?a7 ?l7 ?c7 ?k7 ?a8 ?l8 ?c8 ?k8 ?a9 ?l9 ?c9 ?k9 ?a10 ?l10 ?c10 ?k10 ?a11 ?l11 ?c11 ?k11 ?a12 ?l12 ?c12 ?k12 ?a13 ?l13 ?c13 ?k13 ?a14 ?l14 ?c14 ?k14 ?a15 ?l15 ?c15 ?k15 ?a16 ?l16 ?c16 ?k16 ?a17 ?l17 ?c17 ?k17 ?a18 ?l18 ?c18 ?k18 ?z_abs ?z_enumerate ?z_list ?z_range ?z_len ?z_isinstance ?z_str ?z_min ?z_max ?z_tuple
    (case a0 => k_is)
    (case l0 => k_is)
    (case c0 => k_is)
    (case k0 => k_is)
    (case a1 => k_is)
    (case l1 => k_is)
    (case c1 => k_is)
    (case k1 => k_is)
    (case a2 => k_is)
    (case l2 => k_is)
    (case c2 => k_is)
    (case k2 => k_is)
    (case a3 => k_is)
    (case l3 => k_is)
    (case c3 => k_is)
    (case k3 => k_is)
    (case a4 => k_is)
    (case l4 => k_is)
    (case c4 => k_is)
    (case k4 => k_is)
    (case a5 => k_is)
    (case l5 => k_is)
    (case c5 => k_is)
    (case k5 => k_is)
    (case a6 => k_is)
    (case l6 => k_is)
    (case c6 => k_is)
    (case k6 => k_is)
    (case a7 => k_is)
    (case l7 => k_is)
    (case c7 => k_is)
    (case k7 => k_is)
    (case a8 => k_is)
    (case l8 => k_is)
    (case c8 => k_is)
    (case k8 => k_is)
    (case a9 => k_is)
    (case l9 => k_is)
    (case c9 => k_is)
    (case k9 => k_is)
    (case a10 => k_is)
    (case l10 => k_is)
    (case c10 => k_is)
    (case k10 => k_is)
    (case a11 => k_is)
    (case l11 => k_is)
    (case c11 => k_is)
    (case k11 => k_is)
    (case a12 => k_is)
    (case l12 => k_is)
    (case c12 => k_is)
    (case k12 => k_is)
    (case a13 => k_is)
    (case l13 => k_is)
    (case c13 => k_is)
    (case k13 => k_is)
    (case a14 => k_is)
    (case l14 => k_is)
    (case c14 => k_is)
    (case k14 => k_is)
    (case a15 => k_is)
    (case l15 => k_is)
    (case c15 => k_is)
    (case k15 => k_is)
    (case a16 => k_is)
    (case l16 => k_is)
    (case c16 => k_is)
    (case k16 => k_is)
    (case a17 => k_is)
    (case l17 => k_is)
    (case c17 => k_is)
    (case k17 => k_is)
    (case a18 => k_is)
    (case l18 => k_is)
    (case c18 => k_is)
    (case k18 => k_is)
    (case z_abs => k_is)
    (case z_enumerate => k_is)
    (case z_list => k_is)
    (case z_range => k_is)
    (case z_len => k_is)
    (case z_isinstance => k_is)
    (case z_str => k_is)
    (case z_min => k_is)
    (case z_max => k_is)
    (case z_tuple => k_is)
