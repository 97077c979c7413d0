import PyProof.Rows.All
import Wide.All
import OpenK.AllK
import Wide.FinOn
import Lean
import PyProof.EqAt
import PyProof.EqKinds
import PyProof.TupleCall
import PySem.Challenge.RW_cablehouse_k11_entries
-- CHANGE: your row's module here, as the last of these rows
set_option Elab.async false
set_option linter.all false
set_option maxRecDepth 100000
namespace L2
open PySem PySem.Spec PyProof.Rows

abbrev Key := Sum Int Str
def keyIs : Key → Value → Bool
  | .inl k, v => Value.isInt k v
  | .inr x, v => Value.isStrOf x v
def keyH (w : World) : Key → Int
  | .inl k => hashInt k
  | .inr x => hashStr w x
theorem keyIs_shape : ∀ {k : Key} {v : Value}, keyIs k v = true → (∃ i t, k = Sum.inl i ∧ v = Value.int i t) ∨ (∃ x t, k = Sum.inr x ∧ v = Value.str x t)
  | .inl i, v, h => by
    obtain ⟨t, e⟩ := Value.isInt_shape (k := i) (v := v) h
    exact .inl ⟨i, t, rfl, e⟩
  | .inr x, v, h => by
    obtain ⟨t, e⟩ := Value.isStrOf_shape (x := x) (v := v) h
    exact .inr ⟨x, t, rfl, e⟩
theorem keyIs_int (i : Int) (t : Tok) : keyIs (.inl i) (.int i t) = true := by simp [keyIs, Value.isInt]
theorem keyIs_str (x : Str) (t : Tok) : keyIs (.inr x) (.str x t) = true := by simp [keyIs, Value.isStrOf]
theorem key_ll (a b : Int) : decide ((Sum.inl a : Key) = Sum.inl b) = (a == b) := by
  by_cases e : a = b
  · subst e; simp
  · have h : ¬ (Sum.inl a : Key) = Sum.inl b := fun q => e (Sum.inl.inj q)
    rw [decide_eq_false h]
    exact (beq_eq_false_iff_ne.mpr e).symm
theorem key_rr (a b : Str) : decide ((Sum.inr a : Key) = Sum.inr b) = decide (a = b) := by
  by_cases e : a = b
  · subst e; simp
  · have h : ¬ (Sum.inr a : Key) = Sum.inr b := fun q => e (Sum.inr.inj q)
    rw [decide_eq_false h, decide_eq_false e]
theorem key_lr (a : Int) (b : Str) : decide ((Sum.inl a : Key) = Sum.inr b) = false := decide_eq_false (fun q => nomatch q)
theorem key_rl (a : Str) (b : Int) : decide ((Sum.inr a : Key) = Sum.inl b) = false := decide_eq_false (fun q => nomatch q)

def mixKind (prog : Program) (w : World) : PySem.KeyKind prog w Key where
  is := keyIs
  hash := keyH w
  inj := fun v a b ha hb => by
    rcases keyIs_shape ha with ⟨i, t, rfl, rfl⟩ | ⟨x, t, rfl, rfl⟩
    · rcases keyIs_shape hb with ⟨j, u, rfl, e⟩ | ⟨y, u, rfl, e⟩
      · injection e with e1 _; rw [e1]
      · exact nomatch e
    · rcases keyIs_shape hb with ⟨j, u, rfl, e⟩ | ⟨y, u, rfl, e⟩
      · exact nomatch e
      · injection e with e1 _; rw [e1]
  byValue := fun k v h => by
    rcases keyIs_shape h with ⟨i, t, rfl, rfl⟩ | ⟨x, t, rfl, rfl⟩ <;> rfl
  pyHash := fun hv h => by
    rcases keyIs_shape hv with ⟨i, t, rfl, rfl⟩ | ⟨x, t, rfl, rfl⟩
    · exact wpAny_pyHash_int h
    · exact wpAny_pyHash_str h
  eqBool := fun hu hv h => by
    rcases keyIs_shape hu with ⟨i, t, rfl, rfl⟩ | ⟨x, t, rfl, rfl⟩
    · rcases keyIs_shape hv with ⟨j, u, rfl, rfl⟩ | ⟨y, u, rfl, rfl⟩
      · rw [key_ll] at h; exact wpAny_eqBool_int h
      · rw [key_lr] at h; exact SeqAt.EqAt.int_str i t y u _ _ _ _ h
    · rcases keyIs_shape hv with ⟨j, u, rfl, rfl⟩ | ⟨y, u, rfl, rfl⟩
      · rw [key_rl] at h; exact SeqAt.EqAt.str_int x t j u _ _ _ _ h
      · rw [key_rr] at h; exact wpAny_eqBool_str h
  «strs» := fun k x t v h => by
    rcases keyIs_shape h with ⟨i, u, rfl, e⟩ | ⟨y, u, rfl, e⟩
    · exact nomatch e
    · injection e with e1 _
      subst e1
      cases v <;> rfl

theorem mixKind_int (prog : Program) (w : World) (i : Int) (t : Tok) : (mixKind prog w).is (.inl i) (.int i t) = true := keyIs_int i t
theorem mixKind_str (prog : Program) (w : World) (x : Str) (t : Tok) : (mixKind prog w).is (.inr x) (.str x t) = true := keyIs_str x t
end L2

namespace L2
open PySem PySem.Spec PyProof.Rows

inductive V where
  | non | bl (b : Bool) | int (i : Int) | str (x : Str) | byt (b : Array UInt8) | flt (b : UInt64) | ref (a : Addr) | ty (n : String)
  deriving DecidableEq

def RelV : V → Value → Prop
  | .non, u => u = Value.none
  | .bl b, u => u = Value.bool b
  | .int i, u => ∃ t, u = Value.int i t
  | .str x, u => ∃ t, u = Value.str x t
  | .byt b, u => ∃ t, u = Value.bytes b t
  | .flt b, u => ∃ t, u = Value.float b t
  | .ref a, u => u = Value.ref a
  | .ty n, u => u = Value.type n

abbrev Vals : List V → List Value → Prop := Paired RelV
theorem Vals.length {xs : List V} {us : List Value} (r : Vals xs us) : xs.length = us.length := Paired.length r
theorem Vals.get : ∀ {xs : List V} {us : List Value} {i : Nat} {x : V}, Vals xs us → xs[i]? = some x → ∃ u, us[i]? = some u ∧ RelV x u
  | _, _, _, _, .nil, e => by simp at e
  | _, _, 0, _, .cons r _, e => by simp at e; subst e; exact ⟨_, rfl, r⟩
  | _, _, i + 1, x, .cons _ t, e => by
    obtain ⟨u, h1, h2⟩ := Vals.get (i := i) (x := x) t (by simpa using e)
    exact ⟨u, by simpa using h1, h2⟩
theorem Vals.set {x : V} {u : Value} (r : RelV x u) : ∀ {xs : List V} {us : List Value} (i : Nat), Vals xs us → Vals (xs.set i x) (us.set i u)
  | _, _, _, .nil => .nil
  | _, _, 0, .cons _ t => .cons r t
  | _, _, i + 1, .cons q t => .cons q (Vals.set r i t)
theorem Vals.append : ∀ {xs ys : List V} {us ws : List Value}, Vals xs us → Vals ys ws → Vals (xs ++ ys) (us ++ ws)
  | _, _, _, _, .nil, s => s
  | _, _, _, _, .cons r t, s => .cons r (Vals.append t s)
theorem Vals.take : ∀ {xs : List V} {us : List Value} (n : Nat), Vals xs us → Vals (xs.take n) (us.take n)
  | _, _, 0, _ => .nil
  | _, _, _ + 1, .nil => .nil
  | _, _, n + 1, .cons r t => .cons r (Vals.take n t)
theorem Vals.drop : ∀ {xs : List V} {us : List Value} (n : Nat), Vals xs us → Vals (xs.drop n) (us.drop n)
  | _, _, 0, r => r
  | _, _, _ + 1, .nil => .nil
  | _, _, n + 1, .cons _ t => Vals.drop n t
def RelO : Option V → Option Value → Prop
  | some v, some u => RelV v u
  | none, none => True
  | _, _ => False
def KV {κ : Type} : List (κ × V) → List (κ × Value) → Prop := Paired fun (p : κ × V) (q : κ × Value) => p.1 = q.1 ∧ RelV p.2 q.2

def kV : Key → V
  | .inl i => .int i
  | .inr x => .str x

inductive HO where
  /-- a list -/
  | lst (xs : List V)
  /-- a tuple (never changes) -/
  | tup (xs : List V)
  /-- a dict whose keys are ints and texts; one whose keys are tuples of ints and texts (the empty one is both) -/
  | dK (kvs : List (Key × V)) | dT (kvs : List (List Key × V))
  /-- a set of ints: its members, its size -/
  | set (S : Int → Bool) (n : Nat)
  /-- an instance of the class at C, its dict at dx, its attributes -/
  | ins (C dx : Addr) (fs : List (Str × V))
  /-- the dict of the instance at x -/
  | own (x : Addr)
  /-- the dict of an exception -/
  | xd (fs : List (Str × V))
  /-- a bound method, f of x -/
  | met (f x : Addr)
  /-- a range object lo, lo + 1, .. below hi -/
  | rng (lo hi : Int)
  /-- a thing that is known to the object (the script; a dict while a loop walks it): read, never written while it is so -/
  | frz (o : Obj) (u : HO)
  /-- a code object's table -/
  | tbl (ps : Array Value)
  /-- any other thing, by what is true of its one object (a def of one's own: SetO a S n := HO.ext fun h => ..) -/
  | ext (φ : Heap → Prop)

abbrev Hp := Addr → Option HO
def upd (H : Hp) (a : Addr) (o : HO) : Hp := fun b => if b = a then some o else H b
theorem upd_same {H : Hp} {a : Addr} {o : HO} : upd H a o a = some o := by unfold upd; rw [if_pos rfl]
theorem upd_ne {H : Hp} {a b : Addr} {o : HO} (h : b ≠ a) : upd H a o b = H b := by unfold upd; rw [if_neg h]
theorem ne_of {H : Hp} {a b : Addr} {o u : HO} (h : H a = some o) (h' : H b = some u) (d : o ≠ u) : a ≠ b := by
  intro e; subst e; rw [h] at h'; exact d (Option.some.inj h')
theorem ne_of_none {H : Hp} {a b : Addr} {o : HO} (h : H a = some o) (h' : H b = none) : a ≠ b := by
  intro e; subst e; rw [h] at h'; cases h'

section
variable (P : Program) (w : World)
def ObjOk (H : Hp) (h : Heap) (a : Addr) : HO → Prop
  | .lst xs => xs.length ≤ sizeLine ∧ ∃ (its : List Value) (n : Nat), Vals xs its ∧ h.get? a = some { cls := .type "list", data := .seq its.toArray n }
  | .tup xs => xs.length ≤ sizeLine ∧ ∃ its : List Value, Vals xs its ∧ IsTup h a its.toArray
  | .dK kvs => kvs.length ≤ sizeLine ∧ (a == sysModules) = false ∧ ∃ vs, KV kvs vs ∧ h.DictOf (mixKind P w) a vs
  | .dT kvs => kvs.length ≤ sizeLine ∧ (a == sysModules) = false ∧ ∃ xs : List (List Key × Addr × Value),
      Paired (fun (p : List Key × V) (q : List Key × Addr × Value) => p.1 = q.1 ∧ H q.2.1 = some (.tup (p.1.map kV)) ∧ RelV p.2 q.2.2) kvs xs ∧
      ∃ o es ep, h.get? a = some o ∧ o.ExactDict ∧ o.data = .dict es ep ∧ es.toList = xs.map (entryOfKey (tupleKind (mixKind P w))) ∧ (xs.map (·.1)).Nodup
  | .set S n => h.SetOf (intKind P w) a S n
  | .ins C dx fs => H dx = some (.own a) ∧ fs.length ≤ 1000 ∧ dx ≠ a ∧ h.get? a = some (PySem.W.instObj C dx) ∧
      ∃ mA, h.Ns1 dx mA ∧ (∀ f, RelO (fs.lookup f) (mA f)) ∧ PySem.Within mA (fs.map (·.1))
  | .own _ => ∃ o, h.get? a = some o
  | .xd fs => ∃ mA, h.Ns1 a mA ∧ ∀ f, RelO (fs.lookup f) (mA f)
  | .rng lo hi => ∃ t u v, h.get? a = some { cls := .type "range", data := .fields #[.int lo t, .int hi u, .int 1 v] }
  | .frz o u => h.get? a = some o ∧ ObjOk H h a u
  | .tbl ps => h.get? a = some { cls := .none, data := .fields ps }
  | .met f x => h.get? a = some (PySem.W.methodObj (.ref f) (.ref x))
  | .ext φ => φ h ∧ (∃ o, h.get? a = some o) ∧ ∀ h1 h2 : Heap, φ h1 → (∀ o, h1.get? a = some o → h2.get? a = some o) → φ h2
def HOk (H : Hp) (h : Heap) : Prop := ∀ a o, H a = some o → ObjOk P w H h a o
end

section
variable {P : Program} {w : World} {H H' : Hp} {h h' : Heap} {a : Addr} {o : HO}
theorem ObjOk.lt (x : ObjOk P w H h a o) : a < h.objs.size := by
  cases o with
  | lst xs => obtain ⟨_, _, _, _, e⟩ := x; exact Heap.lt_size e
  | tup xs => obtain ⟨_, _, _, p⟩ := x; exact p.lt
  | dK kvs => obtain ⟨_, _, _, _, o, _, _, e, _⟩ := x; exact Heap.lt_size e
  | dT kvs => obtain ⟨_, _, _, _, o, _, _, e, _⟩ := x; exact Heap.lt_size e
  | set S n => obtain ⟨o, _, _, _, e, _⟩ := x; exact Heap.lt_size e
  | ins C dx fs => obtain ⟨_, _, _, e, _⟩ := x; exact Heap.lt_size e
  | own y => obtain ⟨_, e⟩ := x; exact Heap.lt_size e
  | xd fs => obtain ⟨_, ⟨_, _, _, e, _⟩, _⟩ := x; exact Heap.lt_size e
  | rng lo hi => obtain ⟨_, _, _, e⟩ := x; exact Heap.lt_size e
  | frz ob u => obtain ⟨e, _⟩ := x; exact Heap.lt_size e
  | tbl ps => exact Heap.lt_size (show h.get? a = some _ from x)
  | met f y => exact Heap.lt_size (show h.get? a = some _ from x)
  | ext φ => obtain ⟨_, ⟨_, e⟩, _⟩ := x; exact Heap.lt_size e
theorem Paired.mapP {α β : Type} {F G : α → β → Prop} : ∀ {l₁ : List α} {l₂ : List β}, Paired F l₁ l₂ → (∀ a b, F a b → G a b) → Paired G l₁ l₂
  | _, _, .nil, _ => .nil
  | _, _, .cons r t, f => .cons (f _ _ r) (Paired.mapP t f)
theorem ObjOk.stay (x : ObjOk P w H h a o) (k : ∀ b u, (b = a ∨ H b = some (.own a)) → h.get? b = some u → h'.get? b = some u)
    (ho : ∀ b, H b = some (.own a) → H' b = some (.own a)) (ht : ∀ b xs, H b = some (.tup xs) → H' b = some (.tup xs)) : ObjOk P w H' h' a o := by
  induction o with
  | lst xs => obtain ⟨z, its, n, r, e⟩ := x; exact ⟨z, its, n, r, k _ _ (.inl rfl) e⟩
  | tup xs => obtain ⟨z, its, r, ob, e, c⟩ := x; exact ⟨z, its, r, ob, k _ _ (.inl rfl) e, c⟩
  | dK kvs => obtain ⟨z, y, vs, r, ob, es, ep, e, c⟩ := x; exact ⟨z, y, vs, r, ob, es, ep, k _ _ (.inl rfl) e, c⟩
  | dT kvs =>
    obtain ⟨z, y, xs, r, ob, es, ep, e, c⟩ := x
    exact ⟨z, y, xs, Paired.mapP r fun p q z => ⟨z.1, ht _ _ z.2.1, z.2.2⟩, ob, es, ep, k _ _ (.inl rfl) e, c⟩
  | set S n => obtain ⟨ob, es, ep, t, e, c⟩ := x; exact ⟨ob, es, ep, t, k _ _ (.inl rfl) e, c⟩
  | ins C dx fs =>
    obtain ⟨d, z, ne, e, mA, ⟨od, es, ep, e2, c⟩, r⟩ := x
    exact ⟨ho _ d, z, ne, k _ _ (.inl rfl) e, mA, ⟨od, es, ep, k _ _ (.inr d) e2, c⟩, r⟩
  | own y => obtain ⟨ob, e⟩ := x; exact ⟨ob, k _ _ (.inl rfl) e⟩
  | xd fs => obtain ⟨mA, ⟨od, es, ep, e, c⟩, r⟩ := x; exact ⟨mA, ⟨od, es, ep, k _ _ (.inl rfl) e, c⟩, r⟩
  | rng lo hi => obtain ⟨t, u, v, e⟩ := x; exact ⟨t, u, v, k _ _ (.inl rfl) e⟩
  | frz ob u ih => obtain ⟨e, q⟩ := x; exact ⟨k _ _ (.inl rfl) e, ih q⟩
  | tbl ps =>
    have e : h.get? a = some { cls := .none, data := .fields ps } := x
    show h'.get? a = some { cls := .none, data := .fields ps }
    exact k a _ (.inl rfl) e
  | met f y =>
    have e : h.get? a = some (PySem.W.methodObj (.ref f) (.ref y)) := x
    show h'.get? a = some (PySem.W.methodObj (.ref f) (.ref y))
    exact k a _ (.inl rfl) e
  | ext φ => obtain ⟨p, ⟨o, e⟩, st⟩ := x; exact ⟨st _ _ p fun o q => k _ _ (.inl rfl) q, ⟨o, k _ _ (.inl rfl) e⟩, st⟩
theorem HOk.lt (x : HOk P w H h) (e : H a = some o) : a < h.objs.size := (x a o e).lt
theorem HOk.fresh (x : HOk P w H h) (e : h.objs.size ≤ a) : H a = none := by
  cases q : H a with
  | none => rfl
  | some u => exact absurd (Nat.lt_of_lt_of_le (x.lt q) e) (Nat.lt_irrefl _)
theorem HOk.kept (x : HOk P w H h) (k : ∀ b u, h.get? b = some u → h'.get? b = some u) : HOk P w H h' := fun a o e =>
  (x a o e).stay (fun b u _ q => k b u q) (fun _ q => q) fun _ _ q => q
theorem HOk.laid (x : HOk P w H h) (k : ∀ b u, h.get? b = some u → h'.get? b = some u) (hp : h.objs.size ≤ a) (new : ObjOk P w (upd H a o) h' a o) : HOk P w (upd H a o) h' := fun b u e => by
  have hn := x.fresh hp
  by_cases hb : b = a
  · subst hb; rw [upd_same] at e; cases e; exact new
  · rw [upd_ne hb] at e
    exact (x b u e).stay (fun c v _ q => k c v q) (fun c q => by rw [upd_ne (ne_of_none q hn)]; exact q) fun c xs q => by rw [upd_ne (ne_of_none q hn)]; exact q
end

def Rd (H : Hp) (a : Addr) (u : HO) : Prop := H a = some u ∨ ∃ o, H a = some (.frz o u)
theorem Rd.of {H : Hp} {a : Addr} {u : HO} (h : H a = some u) : Rd H a u := .inl h
theorem Rd.ok {P : Program} {w : World} {H : Hp} {h : Heap} {a : Addr} {u : HO} (r : Rd H a u) (x : HOk P w H h) : ObjOk P w H h a u := by
  rcases r with r | ⟨o, r⟩
  · exact x a u r
  · obtain ⟨_, q⟩ := x a _ r
    exact q
def Mut : Option HO → Prop
  | some (.lst _) => True
  | some (.dK _) => True
  | some (.dT _) => True
  | some (.set _ _) => True
  | some (.ins _ _ _) => True
  | some (.ext _) => True
  | _ => False
section
variable {P : Program} {w : World} {H : Hp} {h h' : Heap} {x e : Addr} {o' : HO}
theorem HOk.write (ok : HOk P w H h) (mu : Mut (H x)) (he : e = x ∨ H e = some (.own x)) (k : ∀ b u, b ≠ e → h.get? b = some u → h'.get? b = some u) (heo : ∃ u, h'.get? e = some u)
    (new : ObjOk P w (upd H x o') h' x o') : HOk P w (upd H x o') h' := fun b u q => by
  have nown : ∀ c y, H c = some (.own y) → c ≠ x := fun c y r z => by subst z; rw [r] at mu; exact mu
  have ntup : ∀ c xs, H c = some (.tup xs) → c ≠ x := fun c xs r z => by subst z; rw [r] at mu; exact mu
  by_cases hb : b = x
  · subst hb; rw [upd_same] at q; cases q; exact new
  · rw [upd_ne hb] at q
    by_cases hbe : b = e
    · have q' : H b = some (.own x) := by
        rcases he with z | z
        · exact absurd (hbe.trans z) hb
        · rw [hbe]; exact z
      rw [q] at q'; cases q'
      obtain ⟨v, hv⟩ := heo
      exact ⟨v, by rw [hbe]; exact hv⟩
    · refine (ok b u q).stay (fun c v hc r => k c v ?_ r) (fun c r => by rw [upd_ne (nown c b r)]; exact r) fun c xs r => by rw [upd_ne (ntup c xs r)]; exact r
      rcases hc with rfl | hc
      · exact hbe
      · rintro rfl
        rcases he with z | z
        · exact nown c b hc z
        · rw [hc] at z; cases z; exact hb rfl
end

structure Un (fs ex : List Addr) (H H' : Hp) (h h' : Heap) : Prop where
  keep : ∀ b o, h.get? b = some o → H b = none → b ∉ fs → b ∉ ex → h'.get? b = some o
  slot : ∀ b o, h.get? b = some o → H b = none → b ∈ fs → b ∉ ex → ∃ sl, h'.get? b = some { o with slots := sl }
  free : ∀ b o, h.get? b = some o → H b = none → b ∉ ex → H' b = none
  there : ∀ b o, h.get? b = some o → b ∉ ex → ∃ o', h'.get? b = some o'
  tups : ∀ b xs, H b = some (.tup xs) → H' b = some (.tup xs)
  frzs : ∀ b o u, H b = some (.frz o u) → H' b = some (.frz o u)
  tbls : ∀ b ps, H b = some (.tbl ps) → ∃ more, H' b = some (.tbl (ps ++ more))
section
variable {fs fs' ex ex' : List Addr} {H H1 H2 : Hp} {h h1 h2 h' : Heap} {a x e : Addr} {o : HO}
theorem Un.any (u : Un fs ex H H1 h h1) {b : Addr} {ob : Obj} (q : h.get? b = some ob) (n : H b = none) (hx : b ∉ ex) : ∃ sl, h1.get? b = some { ob with slots := sl } := by
  by_cases hb : b ∈ fs
  · exact u.slot b ob q n hb hx
  · exact ⟨ob.slots, u.keep b ob q n hb hx⟩
theorem Un.trans (a : Un fs ex H H1 h h1) (b : Un fs ex H1 H2 h1 h2) : Un fs ex H H2 h h2 where
  keep := fun c ob q n hc hx => b.keep c ob (a.keep c ob q n hc hx) (a.free c ob q n hx) hc hx
  slot := fun c ob q n hc hx => by
    obtain ⟨sl, e1⟩ := a.slot c ob q n hc hx
    obtain ⟨sl', e2⟩ := b.slot c _ e1 (a.free c ob q n hx) hc hx
    exact ⟨sl', e2⟩
  free := fun c ob q n hx => by
    obtain ⟨o', e1⟩ := a.there c ob q hx
    exact b.free c o' e1 (a.free c ob q n hx) hx
  there := fun c ob q hx => by
    obtain ⟨o', e1⟩ := a.there c ob q hx
    exact b.there c o' e1 hx
  tups := fun c xs q => b.tups c xs (a.tups c xs q)
  frzs := fun c ob xs q => b.frzs c ob xs (a.frzs c ob xs q)
  tbls := fun c ps q => by
    obtain ⟨m1, e1⟩ := a.tbls c ps q
    obtain ⟨m2, e2⟩ := b.tbls c _ e1
    exact ⟨m1 ++ m2, by rw [e2, Array.append_assoc]⟩
theorem Un.kept (k : ∀ b u, h.get? b = some u → h'.get? b = some u) : Un fs ex H H h h' :=
  ⟨fun b ob q _ _ _ => k b ob q, fun b ob q _ _ _ => ⟨ob.slots, k b ob q⟩, fun _ _ _ n _ => n, fun b ob q _ => ⟨ob, k b ob q⟩, fun _ _ q => q, fun _ _ _ q => q, fun _ ps q => ⟨#[], by rw [q]; simp⟩⟩
theorem Un.refl : Un fs ex H H h h := Un.kept fun _ _ q => q
theorem Un.laid (k : ∀ b u, h.get? b = some u → h'.get? b = some u) (hp : h.objs.size ≤ a) (hn : H a = none) : Un fs ex H (upd H a o) h h' where
  keep := fun b u q _ _ _ => k b u q
  slot := fun b u q _ _ _ => ⟨u.slots, k b u q⟩
  free := fun b u q n _ => by rw [upd_ne (Nat.ne_of_lt (Nat.lt_of_lt_of_le (Heap.lt_size q) hp))]; exact n
  there := fun b u q _ => ⟨u, k b u q⟩
  tups := fun b xs q => by rw [upd_ne (ne_of_none q hn)]; exact q
  frzs := fun b u xs q => by rw [upd_ne (ne_of_none q hn)]; exact q
  tbls := fun b ps q => ⟨#[], by rw [upd_ne (ne_of_none q hn), q]; simp⟩
theorem Un.write (mu : Mut (H x)) (he : e = x ∨ H e = some (.own x)) (k : ∀ b u, b ≠ e → h.get? b = some u → h'.get? b = some u) (heo : ∃ u, h'.get? e = some u) : Un fs ex H (upd H x o) h h' := by
  have hx : ∀ b, H b = none → b ≠ x := fun b n z => by subst z; rw [n] at mu; exact mu
  have hb : ∀ b, H b = none → b ≠ e := fun b n z => by
    subst z
    rcases he with r | r
    · exact hx b n r
    · rw [n] at r; cases r
  have hm : ∀ b u, H b = some u → ¬ Mut (some u) → b ≠ x := fun b u q nm z => by subst z; rw [q] at mu; exact nm mu
  refine ⟨fun b u q n _ _ => k b u (hb b n) q, fun b u q n _ _ => ⟨u.slots, k b u (hb b n) q⟩, fun b u q n _ => by rw [upd_ne (hx b n)]; exact n, fun b u q _ => ?_,
    fun b xs q => by rw [upd_ne (hm b _ q fun z => z)]; exact q, fun b u xs q => by rw [upd_ne (hm b _ q fun z => z)]; exact q, fun b ps q => ⟨#[], by rw [upd_ne (hm b _ q fun z => z), q]; simp⟩⟩
  by_cases hbe : b = e
  · subst hbe; exact heo
  · exact ⟨u, k b u hbe q⟩
theorem Un.mono (u : Un fs ex H H1 h h1) (hs : ∀ b ∈ fs, b ∈ fs') (hx : ∀ b ∈ ex, b ∈ ex') : Un fs' ex' H H1 h h1 :=
  ⟨fun b ob q n hb he => u.keep b ob q n (fun z => hb (hs b z)) fun z => he (hx b z), fun _ _ q n _ he => u.any q n fun z => he (hx _ z), fun b ob q n he => u.free b ob q n fun z => he (hx b z), fun b ob q he => u.there b ob q fun z => he (hx b z), u.tups, u.frzs, u.tbls⟩
end

def trk (h : Heap) (H : Hp) : List Addr := (List.range h.objs.size).filter fun a => (H a).isSome
def hidT (h : Heap) (H : Hp) : Heap := PySem.W.hideAll h (trk h H)
theorem hidT_size (h : Heap) (H : Hp) : (hidT h H).objs.size = h.objs.size := PySem.W.hideAll_size _ _
theorem hidT_get {h : Heap} {H : Hp} {b : Addr} {o : Obj} (e : h.get? b = some o) (n : H b = none) : (hidT h H).get? b = some o :=
  PySem.W.hideAll_get _ e fun hm => by
    have q : (H b).isSome = true := (List.mem_filter.mp hm).2
    rw [n] at q; simp at q
theorem of_hidT {h : Heap} {H : Hp} {b : Addr} {o : Obj} (e : (hidT h H).get? b = some o) : h.get? b = some o ∧ H b = none := by
  have e' : h.get? b = some o := PySem.W.of_hideAll (trk h H) e
  refine ⟨e', ?_⟩
  cases q : H b with
  | none => rfl
  | some x =>
    have hm : b ∈ trk h H := List.mem_filter.mpr ⟨List.mem_range.mpr (Heap.lt_size e'), by simp [q]⟩
    have z : (hidT h H).get? b = none := PySem.W.hideAll_none (trk h H) hm
    rw [z] at e; cases e

def allNews (g h : Heap) (L : Addr) : List (Addr × Obj) := (List.range h.objs.size).filterMap fun a => if a = L ∨ (g.get? a).isSome = true then none else (h.get? a).map fun o => (a, o)
def rest (g h : Heap) (L d : Addr) : List (Addr × Obj) := (allNews g h L).filter fun p => decide (p.1 ≠ d)
end L2

namespace L2
open PySem PySem.Spec PyProof.Rows

structure Mod (K : PySem.W.Frag) (mg : Str → Option Value) (base : Heap) : Prop where
  kin : K.In base
  glob : base.Ns mainGlobals mg
  blt : ∃ mb, base.Ns builtinsNs mb ∧ ∀ x : Str, x ≠ "__name__" → mb x = bootBuiltins x
  nolimit : base.NoLimit

/-- the context: a def's body (or a comprehension's block) running. base: fixed through the whole law; s₀, H₀: the entry; outer: the frames whose slots others may change (a def's callers); stack: all frames that run;
   ex: iterators that were made ahead of the entry and are walked here (a comprehension's); fn: the names whose cells were made at the entry (a def: all; a comprehension's block: its own); calm: not within an except suite; pn: pins that every state bears; xe: what is wanted of an exception that leaves the code -/
structure Cx where
  prog : Program
  w : World
  K : PySem.W.Frag
  mg : Str → Option Value
  base : Heap
  A : Around
  N : List Str
  s₀ : Shared
  H₀ : Hp
  env : Env
  outer : List Env
  stack : List Env
  ex : List Addr
  fn : Str → Bool
  calm : Bool
  pn : List (Addr × Obj)
  xe : Value → Shared → Prop
def frs (l : List Env) : List Addr := l.filterMap (·.frame)
abbrev Cx.fs (X : Cx) : List Addr := frs X.outer

def Vis (sc : Scope) (x : Str) : Prop := sc.names.lookup x = some .local ∨ sc.names.lookup x = some .cell ∨ sc.names.lookup x = some .free
def Loc (sc : Scope) (x : Str) : Prop := sc.names.lookup x = some .local ∨ sc.names.lookup x = some .cell
def Look (env : Env) (h : Heap) (m : Str → Option Value) (x : Str) (u : Value) : Prop :=
  (env.kindOf x = some .local ∧ m x = some u) ∨ ((env.kindOf x = some .cell ∨ env.kindOf x = some .free) ∧ ∃ c, env.cells.lookup x = some c ∧ h.IsCell c (some u))

structure Cx.Ok (X : Cx) : Prop where
  mod : Mod X.K X.mg X.base
  kind : X.env.scope.kind = .function
  glob : X.env.globals = mainGlobals
  blt : X.env.builtins = builtinsNs
  above : X.s₀.heap.objs.size ≤ X.env.locals
  inj : ∀ x y c, X.env.cells.lookup x = some c → X.env.cells.lookup y = some c → x = y
  has : ∀ x, (X.env.kindOf x = some .cell ∨ X.env.kindOf x = some .free) → ∃ c, X.env.cells.lookup x = some c
  cab : ∀ x c, X.fn x = true → X.env.cells.lookup x = some c → X.s₀.heap.objs.size ≤ c
  hd : X.calm = true → X.A.handled = none
  frames : X.A.frames = some X.stack
  stk : X.stack = X.outer ∨ (X.stack = X.env :: X.outer ∧ X.env.frame = some X.env.locals)
  exf : ∀ b ∈ X.ex, b ≠ X.env.locals ∧ ∀ x c, X.env.cells.lookup x = some c → c ≠ b
  bs : ∀ b o, X.base.get? b = some o → X.s₀.heap.get? b = some o ∧ X.H₀ b = none
  bsz : X.base.objs.size ≤ X.s₀.heap.objs.size
  noex : ∀ b o, X.base.get? b = some o → b ∉ X.ex
  exfs : ∀ b ∈ X.ex, b ∉ X.fs
  funs : X.s₀.heap.FunFrames X.base X.outer
  frf : ∀ b ∈ X.fs, X.H₀ b = none

structure Inv (X : Cx) (pins : List (Addr × Obj)) (σ : List (Option V)) (H : Hp) (s : Shared) : Prop where
  ok : X.Ok
  os : s.os = X.s₀.os
  bare : AllBare s.gens
  base : Un X.fs X.ex X.H₀ H X.s₀.heap s.heap
  loc : ∃ m, s.heap.Ns X.env.locals m ∧ ∀ (i : Nat) (x : Str) (v : V), X.N[i]? = some x → σ[i]? = some (some v) → Vis X.env.scope x → ∃ u, RelV v u ∧ Look X.env s.heap m x u
  cell : ∀ x c, X.env.cells.lookup x = some c → ∃ v, s.heap.IsCell c v
  free : H X.env.locals = none
  freeC : ∀ x c, X.env.cells.lookup x = some c → H c = none
  pin : ∀ p ∈ X.pn ++ pins, s.heap.get? p.1 = some p.2 ∧ H p.1 = none ∧ p.1 ≠ X.env.locals ∧ p.1 ∉ X.fs ∧ ∀ v, p.2.data ≠ .cell v
  hok : HOk X.prog X.w H s.heap
  len : σ.length = X.N.length

section
variable {X : Cx} {pins : List (Addr × Obj)} {σ : List (Option V)} {H H' : Hp} {s : Shared} {h' : Heap}

theorem Cx.Ok.nofr (ok : X.Ok) {b : Addr} {o : Obj} (e : X.base.get? b = some o) : b ∉ X.fs := fun hb => by
  have := (ok.funs.mem hb).1
  rw [e] at this; cases this
theorem Inv.bs (I : Inv X pins σ H s) : ∀ b o, X.base.get? b = some o → s.heap.get? b = some o ∧ H b = none := fun b o e =>
  ⟨I.base.keep b o (I.ok.bs b o e).1 (I.ok.bs b o e).2 (I.ok.nofr e) (I.ok.noex b o e), I.base.free b o (I.ok.bs b o e).1 (I.ok.bs b o e).2 (I.ok.noex b o e)⟩
theorem Inv.bk (I : Inv X pins σ H s) : ∀ b o, X.base.get? b = some o → s.heap.get? b = some o := fun b o e => (I.bs b o e).1
theorem Inv.mod (I : Inv X pins σ H s) : Mod X.K X.mg X.base := I.ok.mod
theorem Inv.kIn (I : Inv X pins σ H s) : X.K.In s.heap := I.ok.mod.kin.keeps I.bk
theorem Inv.nolimit (I : Inv X pins σ H s) : s.heap.NoLimit := I.ok.mod.nolimit.keeps I.bk
theorem Inv.fr (I : Inv X pins σ H s) : ∃ m, Fr X.base X.env.locals s.heap m :=
  let ⟨m, hn, _⟩ := I.loc
  ⟨m, hn, I.bk, Nat.le_trans I.ok.bsz I.ok.above⟩
theorem Inv.lt (I : Inv X pins σ H s) : X.env.locals < s.heap.objs.size := let ⟨_, hn, _⟩ := I.loc; hn.lt
theorem Inv.sz (I : Inv X pins σ H s) : X.s₀.heap.objs.size ≤ s.heap.objs.size := Nat.le_trans I.ok.above (Nat.le_of_lt I.lt)
theorem Inv.nofs (I : Inv X pins σ H s) {a : Addr} (h : s.heap.objs.size ≤ a) : a ∉ X.fs := fun hb => by
  obtain ⟨_, o, ho, _⟩ := I.ok.funs.mem hb
  exact absurd (Nat.lt_of_lt_of_le (Heap.lt_size ho) (Nat.le_trans I.sz h)) (Nat.lt_irrefl _)
theorem Inv.cne (I : Inv X pins σ H s) : ∀ x c, X.env.cells.lookup x = some c → c ≠ X.env.locals := fun x c e z => by
  obtain ⟨v, o, ho, hd⟩ := I.cell x c e
  obtain ⟨m, ⟨o', es, ep, ho', hd', _⟩, _⟩ := I.loc
  rw [z, ho'] at ho; cases ho; rw [hd'] at hd; cases hd
theorem Inv.funs (I : Inv X pins σ H s) : s.heap.FunFrames X.base X.outer := by
  have all : ∀ (l : List Env), (∀ b ∈ frs l, b ∈ X.fs) → X.s₀.heap.FunFrames X.base l → s.heap.FunFrames X.base l := by
    intro l
    induction l with
    | nil => intro _ _; trivial
    | cons env r ih =>
      intro hs hl
      obtain ⟨hk, ⟨L, o, hf, hn, ho, hd⟩, hr⟩ := hl
      have hL : L ∈ X.fs := hs L (by unfold frs; rw [List.filterMap_cons, hf]; exact List.mem_cons_self)
      obtain ⟨sl, e⟩ := I.base.slot L o ho (I.ok.frf L hL) hL fun z => I.ok.exfs L z hL
      exact ⟨hk, ⟨L, _, hf, hn, e, hd⟩, ih (fun b hb => hs b (by unfold frs; rw [List.filterMap_cons, hf]; exact List.mem_cons_of_mem _ hb)) hr⟩
  exact all X.outer (fun _ hb => hb) I.ok.funs

theorem Inv.stack (I : Inv X pins σ H s) : s.heap.FunFrames X.base X.stack := by
  rcases I.ok.stk with e | ⟨e, hf⟩
  · rw [e]; exact I.funs
  · rw [e]
    obtain ⟨m, hn, _⟩ := I.loc
    refine .cons (by rw [I.ok.kind]; decide) hf hn ?_ I.funs
    exact Heap.get?_none_of_le (Nat.le_trans I.ok.bsz I.ok.above)
theorem Inv.stkSub (I : Inv X pins σ H s) : ∀ b ∈ frs X.stack, b ∈ X.env.locals :: X.fs := fun b hb => by
  rcases I.ok.stk with e | ⟨e, hf⟩
  · rw [e] at hb; exact List.mem_cons_of_mem _ hb
  · rw [e] at hb
    unfold frs at hb
    rw [List.filterMap_cons, hf] at hb
    exact hb
theorem Inv.stkFree (I : Inv X pins σ H s) : ∀ b ∈ frs X.stack, H b = none := fun b hb => by
  rcases List.mem_cons.mp (I.stkSub b hb) with e | hb
  · rw [e]; exact I.free
  · obtain ⟨_, o, ho, _⟩ := I.ok.funs.mem hb
    exact I.base.free b o ho (I.ok.frf b hb) fun z => I.ok.exfs b z hb

theorem Inv.step {g' : Array GenState} {t' : Nat} {d' : Drawn} {ch : List Addr} (I : Inv X pins σ H s)
    (hch : ∀ b ∈ ch, (b ∈ X.ex ∨ X.s₀.heap.objs.size ≤ b) ∧ b ≠ X.env.locals ∧ (∀ x c, X.env.cells.lookup x = some c → c ≠ b) ∧ ∀ p ∈ X.pn ++ pins, p.1 ≠ b)
    (keep : ∀ b o, b ≠ X.env.locals → b ∉ X.fs → b ∉ ch → s.heap.get? b = some o → H b = none → h'.get? b = some o)
    (slot : ∀ b o, b ≠ X.env.locals → b ∈ X.fs → b ∉ ch → s.heap.get? b = some o → H b = none → ∃ sl, h'.get? b = some { o with slots := sl }) (free : ∀ b o, b ∉ ch → s.heap.get? b = some o → H b = none → H' b = none)
    (there : ∀ b o, b ∉ ch → s.heap.get? b = some o → ∃ o', h'.get? b = some o')
    (tups : ∀ b xs, H b = some (.tup xs) → H' b = some (.tup xs)) (frzs : ∀ b o u, H b = some (.frz o u) → H' b = some (.frz o u)) (tbls : ∀ b ps, H b = some (.tbl ps) → ∃ more, H' b = some (.tbl (ps ++ more)))
    (ns : ∀ m, s.heap.Ns X.env.locals m → h'.Ns X.env.locals m) (hok : HOk X.prog X.w H' h') (hg : AllBare g') :
    Inv X pins σ H' { s with heap := h', gens := g', drawn := d', toks := t' } := by
  have neL : ∀ b o, X.s₀.heap.get? b = some o → b ≠ X.env.locals := fun b o e => Nat.ne_of_lt (Nat.lt_of_lt_of_le (Heap.lt_size e) I.ok.above)
  have neC : ∀ b o, X.s₀.heap.get? b = some o → b ∉ X.ex → b ∉ ch := fun b o e hx hb => by
    rcases (hch b hb).1 with z | z
    · exact hx z
    · exact absurd (Nat.lt_of_lt_of_le (Heap.lt_size e) z) (Nat.lt_irrefl _)
  have cellK : ∀ x c, X.env.cells.lookup x = some c → ∀ v, s.heap.IsCell c v → h'.IsCell c v := fun x c e v ⟨o, ho, hd⟩ => by
    have nch : c ∉ ch := fun z => (hch c z).2.2.1 x c e rfl
    by_cases hc : c ∈ X.fs
    · obtain ⟨sl, q⟩ := slot c o (I.cne x c e) hc nch ho (I.freeC x c e)
      exact ⟨_, q, hd⟩
    · exact ⟨o, keep c o (I.cne x c e) hc nch ho (I.freeC x c e), hd⟩
  refine ⟨I.ok, I.os, hg, ⟨fun b o e n hb hx => ?_, fun b o e n hb hx => ?_, fun b o e n hx => ?_, fun b o e hx => ?_, fun b xs e => tups b xs (I.base.tups b xs e), fun b o xs e => frzs b o xs (I.base.frzs b o xs e), fun b ps e => ?_⟩, ?_, fun x c e => ?_, ?_, fun x c e => ?_, fun p hp => ?_, hok, I.len⟩
  · exact keep b o (neL b o e) hb (neC b o e hx) (I.base.keep b o e n hb hx) (I.base.free b o e n hx)
  · obtain ⟨sl, e1⟩ := I.base.slot b o e n hb hx
    obtain ⟨sl', e2⟩ := slot b _ (neL b o e) hb (neC b o e hx) e1 (I.base.free b o e n hx)
    exact ⟨sl', e2⟩
  · obtain ⟨o', e1⟩ := I.base.there b o e hx
    exact free b o' (neC b o e hx) e1 (I.base.free b o e n hx)
  · obtain ⟨o', e1⟩ := I.base.there b o e hx
    exact there b o' (neC b o e hx) e1
  · obtain ⟨m1, e1⟩ := I.base.tbls b ps e
    obtain ⟨m2, e2⟩ := tbls b _ e1
    exact ⟨m1 ++ m2, by rw [e2, Array.append_assoc]⟩
  · obtain ⟨m, hn, hl⟩ := I.loc
    refine ⟨m, ns m hn, fun i x v e1 e2 e3 => ?_⟩
    obtain ⟨u, r, l⟩ := hl i x v e1 e2 e3
    refine ⟨u, r, ?_⟩
    rcases l with l | ⟨k, c, e, z⟩
    · exact .inl l
    · exact .inr ⟨k, c, e, cellK x c e _ z⟩
  · obtain ⟨v, z⟩ := I.cell x c e
    exact ⟨v, cellK x c e v z⟩
  · obtain ⟨m, ⟨o, _, _, ho, _⟩, _⟩ := I.loc
    exact free _ o (fun z => (hch _ z).2.1 rfl) ho I.free
  · obtain ⟨v, o, ho, hd⟩ := I.cell x c e
    exact free c o (fun z => (hch c z).2.2.1 x c e rfl) ho (I.freeC x c e)
  · obtain ⟨e, n, ne, nf, d⟩ := I.pin p hp
    have nch : p.1 ∉ ch := fun z => (hch p.1 z).2.2.2 p hp rfl
    exact ⟨keep p.1 p.2 ne nf nch e n, free p.1 p.2 nch e n, ne, nf, d⟩
theorem Inv.un {t' : Nat} (I : Inv X pins σ H s) (u : Un X.fs [] H H' s.heap h') (hok : HOk X.prog X.w H' h') : Inv X pins σ H' { s with heap := h', toks := t' } := by
  obtain ⟨m, ⟨o, es, ep, ho, r⟩, _⟩ := id I.loc
  obtain ⟨sl, hL⟩ := u.any ho I.free (by simp)
  exact I.step (g' := s.gens) (d' := s.drawn) (ch := []) (fun _ z => nomatch z) (fun b o _ hb _ e n => u.keep b o e n hb (by simp)) (fun b o _ hb _ e n => u.slot b o e n hb (by simp)) (fun b o _ e n => u.free b o e n (by simp)) (fun b o _ e => u.there b o e (by simp)) u.tups u.frzs u.tbls (fun m' hm => by
    obtain ⟨o', es', ep', ho', r'⟩ := hm
    rw [ho] at ho'; cases ho'
    exact ⟨_, es', ep', hL, r'⟩) hok I.bare
theorem Inv.call {g' : Array GenState} {t' : Nat} {d' : Drawn} {ch : List Addr} (I : Inv X pins σ H s) (u : Un (frs X.stack) ch H H' s.heap h') (hok : HOk X.prog X.w H' h') (hg : AllBare g')
    (hch : ∀ b ∈ ch, (b ∈ X.ex ∨ X.s₀.heap.objs.size ≤ b) ∧ b ≠ X.env.locals ∧ (∀ x c, X.env.cells.lookup x = some c → c ≠ b) ∧ ∀ p ∈ X.pn ++ pins, p.1 ≠ b) :
    Inv X pins σ H' { s with heap := h', gens := g', drawn := d', toks := t' } := by
  obtain ⟨m, ⟨o, es, ep, ho, r⟩, _⟩ := id I.loc
  obtain ⟨sl, hL⟩ := u.any ho I.free fun z => (hch _ z).2.1 rfl
  exact I.step (ch := ch) hch (fun b o hL hb hc e n => u.keep b o e n (fun z => (List.mem_cons.mp (I.stkSub b z)).elim hL hb) hc) (fun b o _ _ hc e n => u.any e n hc) (fun b o hc e n => u.free b o e n hc) (fun b o hc e => u.there b o e hc) u.tups u.frzs u.tbls (fun m' hm => by
    obtain ⟨o', es', ep', ho', r'⟩ := hm
    rw [ho] at ho'; cases ho'
    exact ⟨_, es', ep', hL, r'⟩) hok hg
theorem Inv.turned {t' : Nat} {it : Addr} (I : Inv X pins σ H s) (k : ∀ b o, b ≠ it → s.heap.get? b = some o → h'.get? b = some o) (hn : H it = none) (hL : it ≠ X.env.locals)
    (h1 : it ∈ X.ex ∨ X.s₀.heap.objs.size ≤ it) (h2 : ∀ x c, X.env.cells.lookup x = some c → c ≠ it) (h3 : ∀ p ∈ X.pn ++ pins, p.1 ≠ it) : Inv X pins σ H { s with heap := h', toks := t' } := by
  have nit : ∀ b u, H b = some u → b ≠ it := fun b u e z => by rw [z, hn] at e; cases e
  refine I.step (g' := s.gens) (d' := s.drawn) (ch := [it]) (fun b hb => ?_) (fun b o _ _ hc e _ => k b o (fun z => hc (by simp [z])) e) (fun b o _ _ hc e _ => ⟨o.slots, k b o (fun z => hc (by simp [z])) e⟩) (fun _ _ _ _ n => n)
    (fun b o hc e => ⟨o, k b o (fun z => hc (by simp [z])) e⟩) (fun _ _ e => e) (fun _ _ _ e => e) (fun b ps e => ⟨#[], by rw [e]; simp⟩) (fun m hm => ?_) (fun b u e => ?_) I.bare
  · have e : b = it := by simpa using hb
    subst e
    exact ⟨h1, hL, h2, h3⟩
  · obtain ⟨o, es, ep, ho, r⟩ := hm
    exact ⟨o, es, ep, k _ o (Ne.symm hL) ho, r⟩
  · refine (I.hok b u e).stay (fun c v hc q => k c v ?_ q) (fun _ q => q) fun _ _ q => q
    rcases hc with z | z
    · rw [z]; exact nit b u e
    · exact nit c _ z
theorem Inv.tok (I : Inv X pins σ H s) (t : Nat) : Inv X pins σ H { s with toks := t } := I.un (h' := s.heap) (t' := t) Un.refl I.hok
theorem Inv.kept {t' : Nat} (I : Inv X pins σ H s) (k : ∀ b u, s.heap.get? b = some u → h'.get? b = some u) : Inv X pins σ H { s with heap := h', toks := t' } := I.un (Un.kept k) (I.hok.kept k)
theorem Inv.laid {a : Addr} {o : HO} {t' : Nat} (I : Inv X pins σ H s) (k : ∀ b u, s.heap.get? b = some u → h'.get? b = some u) (hp : s.heap.objs.size ≤ a) (new : ObjOk X.prog X.w (upd H a o) h' a o) :
    Inv X pins σ (upd H a o) { s with heap := h', toks := t' } := I.un (Un.laid k hp (I.hok.fresh hp)) (I.hok.laid k hp new)
theorem Inv.write {x e : Addr} {o : HO} {t' : Nat} (I : Inv X pins σ H s) (mu : Mut (H x)) (he : e = x ∨ H e = some (.own x)) (k : ∀ b u, b ≠ e → s.heap.get? b = some u → h'.get? b = some u) (heo : ∃ u, h'.get? e = some u)
    (new : ObjOk X.prog X.w (upd H x o) h' x o) : Inv X pins σ (upd H x o) { s with heap := h', toks := t' } := I.un (Un.write mu he k heo) (I.hok.write mu he k heo new)
theorem Inv.pins_of {pins' : List (Addr × Obj)} (I : Inv X pins σ H s) (h : ∀ p ∈ pins', s.heap.get? p.1 = some p.2 ∧ H p.1 = none ∧ p.1 ≠ X.env.locals ∧ p.1 ∉ X.fs ∧ ∀ v, p.2.data ≠ .cell v) : Inv X pins' σ H s :=
  ⟨I.ok, I.os, I.bare, I.base, I.loc, I.cell, I.free, I.freeC, fun p hp => (List.mem_append.mp hp).elim (fun z => I.pin p (List.mem_append_left _ z)) (h p), I.hok, I.len⟩

theorem nodup_ix {N : List Str} (hN : N.Nodup) {i j : Nat} {x : Str} (a : N[i]? = some x) (b : N[j]? = some x) : i = j := by
  obtain ⟨h1, e1⟩ := List.getElem?_eq_some_iff.mp a
  obtain ⟨h2, e2⟩ := List.getElem?_eq_some_iff.mp b
  exact (List.getElem_inj hN).mp (e1.trans e2.symm)

theorem store_ok2 {M : Model} {A : Around} {E : Value → Shared → Prop} {i : Nat} {x : Str} {v : V} {u : Value} {Q : Unit → Shared → Prop} (I : Inv X pins σ H s) (hN : X.N.Nodup) (hi : X.N[i]? = some x) (hx : Loc X.env.scope x) (r : RelV v u)
    (h : ∀ s', Inv X pins (σ.set i (some v)) H s' → (∃ a, Heap.SameBut a s.heap s'.heap ∧ (a = X.env.locals ∨ X.env.cells.lookup x = some a)) → Q () s') (hf : X.fn x = true ∨ X.env.scope.names.lookup x = some .local := by first | exact .inl rfl | exact .inr rfl | assumption) : wpAny M A (storeName X.env x u) Q E s := by
  obtain ⟨m, hn, hl⟩ := id I.loc
  have hcls : (X.env.scope.kind == .class || (X.env.scope.kind == .module && X.env.locals != X.env.globals)) = false := by rw [I.ok.kind]; rfl
  have hiσ : i < σ.length := by rw [I.len]; exact (List.getElem?_eq_some_iff.mp hi).1
  have cne := I.cne
  have tracked : ∀ {a : Addr} {h' : Heap}, (∃ o, s.heap.get? a = some o ∧ H a = none) → Heap.SameBut a s.heap h' → HOk X.prog X.w H h' := fun {a h'} ha hs b ob e => by
    obtain ⟨_, _, hfree⟩ := ha
    refine (I.hok b ob e).stay (fun c w' hc q => (hs.2 c ?_).trans q) (fun _ q => q) fun _ _ q => q
    rintro rfl
    rcases hc with rfl | hc
    · rw [hfree] at e; cases e
    · rw [hfree] at hc; cases hc
  rcases hx with hk | hk
  · refine wpAny_storeName_local hk hn (fun h' hn' hs => ?_) hcls
    obtain ⟨oL, _, _, hoL, _⟩ := id hn
    refine h _ ⟨I.ok, I.os, I.bare, ⟨fun b o e n hb hx => ?_, fun b o e n hb hx => ?_, I.base.free, fun b o e hx => ?_, I.base.tups, I.base.frzs, I.base.tbls⟩, ⟨_, hn', fun j y v' e1 e2 e3 => ?_⟩, fun y c e => ?_, I.free, I.freeC, fun p hp => ?_, tracked ⟨oL, hoL, I.free⟩ hs, by simpa using I.len⟩ ⟨_, hs, .inl rfl⟩
    · exact (hs.2 b (Nat.ne_of_lt (Nat.lt_of_lt_of_le (Heap.lt_size e) I.ok.above))).trans (I.base.keep b o e n hb hx)
    · obtain ⟨sl, e1⟩ := I.base.slot b o e n hb hx
      exact ⟨sl, (hs.2 b (Nat.ne_of_lt (Nat.lt_of_lt_of_le (Heap.lt_size e) I.ok.above))).trans e1⟩
    · obtain ⟨o', e1⟩ := I.base.there b o e hx
      exact ⟨o', (hs.2 b (Nat.ne_of_lt (Nat.lt_of_lt_of_le (Heap.lt_size e) I.ok.above))).trans e1⟩
    · by_cases hj : j = i
      · subst hj
        rw [hi] at e1; cases e1
        rw [List.getElem?_set_self hiσ] at e2
        cases e2
        exact ⟨u, r, .inl ⟨hk, by simp⟩⟩
      · rw [List.getElem?_set_ne (Ne.symm hj)] at e2
        obtain ⟨u', r', q⟩ := hl j y v' e1 e2 e3
        refine ⟨u', r', ?_⟩
        rcases q with ⟨k, e⟩ | ⟨k, c, e, z⟩
        · refine .inl ⟨k, ?_⟩
          have : y ≠ x := fun e => hj (nodup_ix hN e1 (e ▸ hi))
          simp [this, e]
        · exact .inr ⟨k, c, e, z.sameBut hs (cne y c e)⟩
    · obtain ⟨w', z⟩ := I.cell y c e
      exact ⟨w', z.sameBut hs (cne y c e)⟩
    · obtain ⟨e, n, ne, nf, d⟩ := I.pin p hp
      exact ⟨(hs.2 p.1 ne).trans e, n, ne, nf, d⟩
  · have hfn : X.fn x = true := by
      rcases hf with z | z
      · exact z
      · rw [z] at hk; cases hk
    obtain ⟨c, hc⟩ := I.ok.has x (.inl hk)
    obtain ⟨w', z⟩ := I.cell x c hc
    refine wpAny_storeName_cell I.ok.kind hk hc z (fun h' hc' hs => ?_)
    obtain ⟨oc, hoc, hocd⟩ := id z
    refine h { s with heap := h' } ⟨I.ok, I.os, I.bare, ⟨fun b o e n hb hx => ?_, fun b o e n hb hx => ?_, I.base.free, fun b o e hx => ?_, I.base.tups, I.base.frzs, I.base.tbls⟩, ⟨m, hn.sameBut hs (Ne.symm (cne x c hc)), fun j y v' e1 e2 e3 => ?_⟩, fun y c' e => ?_, I.free, I.freeC, fun p hp => ?_, tracked ⟨oc, hoc, I.freeC x c hc⟩ hs, by simpa using I.len⟩ ⟨c, hs, .inr hc⟩
    · exact (hs.2 b (Nat.ne_of_lt (Nat.lt_of_lt_of_le (Heap.lt_size e) (I.ok.cab x c hfn hc)))).trans (I.base.keep b o e n hb hx)
    · obtain ⟨sl, e1⟩ := I.base.slot b o e n hb hx
      exact ⟨sl, (hs.2 b (Nat.ne_of_lt (Nat.lt_of_lt_of_le (Heap.lt_size e) (I.ok.cab x c hfn hc)))).trans e1⟩
    · obtain ⟨o', e1⟩ := I.base.there b o e hx
      exact ⟨o', (hs.2 b (Nat.ne_of_lt (Nat.lt_of_lt_of_le (Heap.lt_size e) (I.ok.cab x c hfn hc)))).trans e1⟩
    · by_cases hj : j = i
      · subst hj
        rw [hi] at e1; cases e1
        rw [List.getElem?_set_self hiσ] at e2
        cases e2
        exact ⟨u, r, .inr ⟨.inl hk, c, hc, hc'⟩⟩
      · rw [List.getElem?_set_ne (Ne.symm hj)] at e2
        obtain ⟨u', r', q⟩ := hl j y v' e1 e2 e3
        refine ⟨u', r', ?_⟩
        rcases q with q | ⟨k, c', e, z'⟩
        · exact .inl q
        · refine .inr ⟨k, c', e, z'.sameBut hs ?_⟩
          rintro rfl
          exact hj (nodup_ix hN e1 (I.ok.inj _ _ _ e hc ▸ hi))
    · by_cases hcc : c' = c
      · subst hcc; exact ⟨_, hc'⟩
      · obtain ⟨w2, z2⟩ := I.cell y c' e
        exact ⟨w2, z2.sameBut hs hcc⟩
    · obtain ⟨e, n, ne, nf, d⟩ := I.pin p hp
      refine ⟨(hs.2 p.1 ?_).trans e, n, ne, nf, d⟩
      intro q
      rw [q, hoc] at e
      have q' : oc = p.2 := Option.some.inj e
      exact d w' (by rw [← q']; exact hocd)
theorem store_ok {M : Model} {A : Around} {E : Value → Shared → Prop} {i : Nat} {x : Str} {v : V} {u : Value} {Q : Unit → Shared → Prop} (I : Inv X pins σ H s) (hN : X.N.Nodup) (hi : X.N[i]? = some x) (hx : Loc X.env.scope x) (r : RelV v u)
    (h : ∀ s', Inv X pins (σ.set i (some v)) H s' → Q () s') (hf : X.fn x = true ∨ X.env.scope.names.lookup x = some .local := by first | exact .inl rfl | exact .inr rfl | assumption) : wpAny M A (storeName X.env x u) Q E s :=
  store_ok2 I hN hi hx r (fun s' I' _ => h s' I') hf
theorem Inv.call' {s' : Shared} {ch : List Addr} (I : Inv X pins σ H s) (ho : s'.os = s.os) (u : Un (frs X.stack) ch H H' s.heap s'.heap) (hok : HOk X.prog X.w H' s'.heap) (hg : AllBare s'.gens)
    (hch : ∀ b ∈ ch, (b ∈ X.ex ∨ X.s₀.heap.objs.size ≤ b) ∧ b ≠ X.env.locals ∧ (∀ x c, X.env.cells.lookup x = some c → c ≠ b) ∧ ∀ p ∈ X.pn ++ pins, p.1 ≠ b) : Inv X pins σ H' s' := by
  obtain ⟨h', g', d', t', o'⟩ := s'
  have e : o' = s.os := ho
  subst e
  exact I.call (g' := g') (t' := t') (d' := d') u hok hg hch
end

abbrev XK := Value → Option Addr → Hp → Prop
abbrev St := List (Option V)
abbrev VK := V → Hp → Prop
abbrev TE := St → Hp → VK → Prop
abbrev TT := St → Hp → (Bool → Hp → Prop) → Prop
abbrev TA := St → Hp → (List V → Hp → Prop) → Prop
structure Ends where
  nx : St → Hp → Prop
  rt : VK
  bk : St → Hp → Prop := fun _ _ => False
  ct : St → Hp → Prop := fun _ _ => False
abbrev TS := Ends → St → Hp → Prop

def EP (X : Cx) (pins : List (Addr × Obj)) (σ : St) (Q : VK) (u : Value) (s' : Shared) : Prop := ∃ v H', Inv X pins σ H' s' ∧ RelV v u ∧ Q v H'
def TP (X : Cx) (pins : List (Addr × Obj)) (σ : St) (Q : Bool → Hp → Prop) (b : Bool) (s' : Shared) : Prop := ∃ H', Inv X pins σ H' s' ∧ Q b H'
def AP (X : Cx) (pins : List (Addr × Obj)) (σ : St) (Q : List V → Hp → Prop) (us : List Value) (s' : Shared) : Prop := ∃ vs H', Inv X pins σ H' s' ∧ Vals vs us ∧ Q vs H'
def SP (X : Cx) (pins : List (Addr × Obj)) (D : Ends) (f : Flow) (s' : Shared) : Prop :=
  match f with
  | .next => ∃ σ' H', Inv X pins σ' H' s' ∧ D.nx σ' H'
  | .brk => ∃ σ' H', Inv X pins σ' H' s' ∧ D.bk σ' H'
  | .cont => ∃ σ' H', Inv X pins σ' H' s' ∧ D.ct σ' H'
  | .ret u => ∃ v σ' H', Inv X pins σ' H' s' ∧ RelV v u ∧ D.rt v H'

def PE (X : Cx) (e : Expr) (t : TE) : Prop :=
  ∀ (pins : List (Addr × Obj)) (s : Shared) (σ : St) (H : Hp) (Q : VK), Inv X pins σ H s → t σ H Q → wpAny (model X.prog X.w) X.A (eval e X.env) (EP X pins σ Q) X.xe s
def PT (X : Cx) (e : Expr) (t : TT) : Prop :=
  ∀ (pins : List (Addr × Obj)) (s : Shared) (σ : St) (H : Hp) (Q : Bool → Hp → Prop), Inv X pins σ H s → t σ H Q → wpAny (model X.prog X.w) X.A (isTrue e X.env (eval e X.env)) (TP X pins σ Q) X.xe s
def PW (X : Cx) (e : Expr) (t : TT) : Prop :=
  ∀ (whole : Sem Value) (pins : List (Addr × Obj)) (s : Shared) (σ : St) (H : Hp) (Q : Bool → Hp → Prop), Inv X pins σ H s → t σ H Q → wpAny (model X.prog X.w) X.A (isTrue e X.env whole) (TP X pins σ Q) X.xe s
theorem PW.pt {X : Cx} {e : Expr} {t : TT} (h : PW X e t) : PT X e t := h _
def PA (X : Cx) (es : List Expr) (t : TA) : Prop :=
  ∀ (pos : Pos) (pins : List (Addr × Obj)) (s : Shared) (σ : St) (H : Hp) (Q : List V → Hp → Prop), Inv X pins σ H s → t σ H Q → wpAny (model X.prog X.w) X.A (spliced (backTo pos (starEach es X.env))) (AP X pins σ Q) X.xe s
def PS (X : Cx) (st : Stmt) (t : TS) : Prop :=
  ∀ (pins : List (Addr × Obj)) (s : Shared) (σ : St) (H : Hp) (D : Ends), Inv X pins σ H s → t D σ H → wpAny (model X.prog X.w) X.A (exec st X.env) (SP X pins D) X.xe s
def PSs (X : Cx) (st : List Stmt) (t : TS) : Prop :=
  ∀ (pins : List (Addr × Obj)) (s : Shared) (σ : St) (H : Hp) (D : Ends), Inv X pins σ H s → t D σ H → wpAny (model X.prog X.w) X.A (execs st X.env) (SP X pins D) X.xe s
theorem thn {α : Type} {t : Sem α} {Q Q' : α → Shared → Prop} {M : Model} {A : Around} {E : Value → Shared → Prop} {s : Shared} (h : wpAny M A t Q E s) (hQ : ∀ a s, Q a s → Q' a s) : wpAny M A t Q' E s := wpAny_mono h hQ fun _ _ x => x
end L2

namespace L2
open PySem PySem.Spec PyProof.Rows
section
variable {X : Cx}

def tVar (i : Nat) : TE := fun σ H Q => ∃ v, σ[i]? = some (some v) ∧ Q v H
def tC (v : V) : TE := fun _ H Q => Q v H
theorem pe_var {i : Nat} {x : Str} {pos : Pos} (hN : X.N[i]? = some x) (hv : Vis X.env.scope x) (hd : (x == ("__debug__" : Str)) = false := by decide) (hcd : (x == ("__classdict__" : Str)) = false := by decide) : PE X (.Name x pos) (tVar i) := by
  intro pins s σ H Q I h
  obtain ⟨v, e, h⟩ := h
  obtain ⟨m, hn, hl⟩ := I.loc
  obtain ⟨u, r, l⟩ := hl i x v hN e hv
  have fin : EP X pins σ Q u s := ⟨v, H, I, r, h⟩
  rcases l with ⟨hk, hm⟩ | ⟨hk, c, hc, hcell⟩
  · exact wpAny_Name (wpAny_loadName_local I.ok.kind hk hn hm fin) hd
  · rcases hk with hk | hk
    · exact wpAny_Name (wpAny_loadName_cell I.ok.kind hk hc hcell fin) hd
    · exact wpAny_Name (wpAny_loadName_free I.ok.kind hk hc hcell fin hcd) hd
theorem pe_int {i j pos} : PE X (.Constant (.int i) j pos) (tC (.int i)) := fun _ _ _ H _ I h => wpAny_Constant_int ⟨.int i, H, I.tok _, ⟨_, rfl⟩, h⟩
theorem pe_bl {b j pos} : PE X (.Constant (.bool b) j pos) (tC (.bl b)) := fun _ _ _ H _ I h => Constant_bool ⟨.bl b, H, I, rfl, h⟩
theorem pe_non {j pos} : PE X (.Constant .none j pos) (tC .non) := fun _ _ _ H _ I h => Constant_none ⟨.non, H, I, rfl, h⟩
theorem pe_str {x j pos} : PE X (.Constant (.str x) j pos) (tC (.str x)) := fun _ _ _ H _ I h => Calls.Constant_str ⟨.str x, H, I.tok _, ⟨_, rfl⟩, h⟩

def Gl (X : Cx) (x : Str) : Prop := X.env.kindOf x = some .globalImplicit
theorem ld_glob {E : Value → Shared → Prop} {pins : List (Addr × Obj)} {s : Shared} {σ : St} {H : Hp} {x : Str} {u : Value} {pos : Pos} {Q : Value → Shared → Prop} (I : Inv X pins σ H s) (hg : Gl X x) (hm : X.mg x = some u) (h : Q u s)
    (hd : (x == ("__debug__" : Str)) = false := by decide) : wpAny (model X.prog X.w) X.A (eval (.Name x pos) X.env) Q E s :=
  Calls.Name_function_global I.ok.kind hg (Calls.loadGlobal_global (by rw [I.ok.glob]; exact I.mod.glob.keeps I.bk) hm h) hd
theorem ld_blt {E : Value → Shared → Prop} {pins : List (Addr × Obj)} {s : Shared} {σ : St} {H : Hp} {x : Str} {u : Value} {pos : Pos} {Q : Value → Shared → Prop} (I : Inv X pins σ H s) (hg : Gl X x) (hm : X.mg x = none) (hv : bootBuiltins x = some u) (h : Q u s)
    (hn : x ≠ "__name__" := by decide) (hd : (x == ("__debug__" : Str)) = false := by decide) : wpAny (model X.prog X.w) X.A (eval (.Name x pos) X.env) Q E s := by
  obtain ⟨mb, h1, h2⟩ := I.mod.blt
  exact Calls.Name_function_global I.ok.kind hg (Calls.loadGlobal_builtin (by rw [I.ok.glob]; exact I.mod.glob.keeps I.bk) hm (by rw [I.ok.blt]; exact h1.keeps I.bk) ((h2 x hn).trans hv) h) hd
theorem pe_glob {x : Str} {v : V} {u : Value} {pos : Pos} (hg : Gl X x) (hm : X.mg x = some u) (r : RelV v u) (hd : (x == ("__debug__" : Str)) = false := by decide) : PE X (.Name x pos) (tC v) :=
  fun _ _ _ H _ I h => ld_glob I hg hm ⟨v, H, I, r, h⟩ hd
theorem pe_bltn {x : Str} {v : V} {u : Value} {pos : Pos} (hg : Gl X x) (hm : X.mg x = none) (hv : bootBuiltins x = some u) (r : RelV v u) (hn : x ≠ "__name__" := by decide) (hd : (x == ("__debug__" : Str)) = false := by decide) : PE X (.Name x pos) (tC v) :=
  fun _ _ _ H _ I h => ld_blt I hg hm hv ⟨v, H, I, r, h⟩ hn hd

variable {a b : Expr} {ta tb : TE} {pos : Pos}
def tB (t : TE) : TT := fun σ H Q => t σ H fun x H1 => ∃ c, x = .bl c ∧ Q c H1
theorem pt_val {e : Expr} {t : TE} (h : PE X e t) (he : ∀ whole, isTrue e X.env whole = (do let v ← whole; standAt e.pos; holding [v] (truthy v)) := by intro _; rfl) : PT X e (tB t) := by
  intro pins s σ H Q I hw
  refine isTrue_plain (thn (h pins s σ H _ I hw) fun v s1 ⟨x, H1, I1, r1, q1⟩ => ?_) (he _)
  obtain ⟨d, rfl, q⟩ := q1
  cases r1
  exact wpAny_truthy_bool ⟨H1, I1, q⟩

variable {tA tB' : TT} {rest : List Expr}
def tAnd (t u : TT) : TT := fun σ H Q => t σ H fun c H1 => if c = true then u σ H1 Q else Q false H1
def tOr (t u : TT) : TT := fun σ H Q => t σ H fun c H1 => if c = true then Q true H1 else u σ H1 Q
def tNot (t : TT) : TT := fun σ H Q => t σ H fun c H1 => Q (!c) H1
theorem pw_or1 (ha : PT X a tA) : PW X (.BoolOp .Or [a] pos) tA := by
  intro wh pins s σ H Q I h
  refine isTrue_or (thn (ha pins s σ H Q I h) fun c s1 e => ?_)
  cases c with
  | false => exact isTrue_or_nil e
  | true => exact e
theorem pw_or (ha : PT X a tA) (hb : PW X (.BoolOp .Or (b :: rest) pos) tB') : PW X (.BoolOp .Or (a :: b :: rest) pos) (tOr tA tB') := by
  intro wh pins s σ H Q I h
  refine isTrue_or (thn (ha pins s σ H _ I h) fun c s1 ⟨H1, I1, q1⟩ => ?_)
  cases c with
  | true => exact ⟨H1, I1, q1⟩
  | false => exact hb wh pins s1 σ H1 Q I1 q1
theorem pt_not (ha : PT X a tA) : PT X (.UnaryOp .Not a pos) (tNot tA) := by
  intro pins s σ H Q I h
  exact isTrue_not (ha pins s σ H (fun c H1 => Q (!c) H1) I h)
def tAndV (ta tb : TE) : TE := fun σ H Q => ta σ H fun x H1 => ∃ c, x = .bl c ∧ if c = true then tb σ H1 Q else Q (.bl false) H1
def tOrV (ta tb : TE) : TE := fun σ H Q => ta σ H fun x H1 => ∃ c, x = .bl c ∧ if c = true then Q (.bl true) H1 else tb σ H1 Q
def tNotV (ta : TE) : TE := fun σ H Q => ta σ H fun x H1 => ∃ c, x = .bl c ∧ Q (.bl (!c)) H1
theorem pe_one {op} {t : TE} (h : PE X a t) : PE X (.BoolOp op [a] pos) t := fun pins s σ H Q I hw => BoolOp_one (h pins s σ H Q I hw)
theorem pe_and (ha : PE X a ta) (hb : PE X (.BoolOp .And (b :: rest) pos) tb) : PE X (.BoolOp .And (a :: b :: rest) pos) (tAndV ta tb) := by
  intro pins s σ H Q I h
  refine BoolOp_and (thn (ha pins s σ H _ I h) fun v s1 ⟨x, H1, I1, r1, q1⟩ => ?_)
  obtain ⟨c, rfl, q1⟩ := q1
  cases r1
  refine wpAny_truthy_bool ?_
  cases c with
  | true => exact hb pins s1 σ H1 Q I1 q1
  | false => exact ⟨.bl false, H1, I1, rfl, q1⟩
def tIf (t : TT) (ta tb : TE) : TE := fun σ H Q => t σ H fun c H1 => if c = true then ta σ H1 Q else tb σ H1 Q
end
end L2

namespace L2
open PySem PySem.Spec PyProof.Rows

def SqL (K : PySem.W.Frag) (H : Hp) (a : Addr) (xs : List V) : Prop :=
  Rd H a (.lst xs) ∨
    ∃ (o : Obj) (its : Array Value) (n : Nat), K.lookup a = some o ∧ o.cls = .type "list" ∧ o.dict = none ∧ o.data = .seq its n ∧ its.size ≤ sizeLine ∧ Vals xs its.toList
def SqT (K : PySem.W.Frag) (H : Hp) (a : Addr) (xs : List V) : Prop :=
  Rd H a (.tup xs) ∨
    ∃ (o : Obj) (its : Array Value) (n : Nat), K.lookup a = some o ∧ o.cls = .type "tuple" ∧ o.data = .seq its n ∧ its.size ≤ sizeLine ∧ Vals xs its.toList
def absV : Value → Option V
  | .none => some .non
  | .bool b => some (.bl b)
  | .int i _ => some (.int i)
  | .str x _ => some (.str x)
  | .bytes b _ => some (.byt b)
  | .float b _ => some (.flt b)
  | .ref a => some (.ref a)
  | .type n => some (.ty n)
  | _ => none
theorem RelV.abs {x : V} {u : Value} (r : RelV x u) : absV u = some x := by
  cases x with
  | non => cases r; rfl
  | bl _ => cases r; rfl
  | int _ => obtain ⟨t, rfl⟩ := r; rfl
  | str _ => obtain ⟨t, rfl⟩ := r; rfl
  | byt _ => obtain ⟨t, rfl⟩ := r; rfl
  | flt _ => obtain ⟨t, rfl⟩ := r; rfl
  | ref _ => cases r; rfl
  | ty _ => cases r; rfl
theorem RelV.inj {x y : V} {u : Value} (r : RelV x u) (q : RelV y u) : x = y := Option.some.inj (r.abs.symm.trans q.abs)
theorem Vals.inj : ∀ {xs ys : List V} {us : List Value}, Vals xs us → Vals ys us → xs = ys
  | _, _, _, .nil, .nil => rfl
  | _, _, _, .cons r t, .cons r' t' => by rw [r.inj r', Vals.inj t t']
section
variable {X : Cx} {pins : List (Addr × Obj)} {σ : St} {H : Hp} {s : Shared} {a : Addr} {xs ys : List V}
theorem SqL.of {K : PySem.W.Frag} (h : H a = some (.lst xs)) : SqL K H a xs := .inl (.inl h)
theorem SqT.of {K : PySem.W.Frag} (h : H a = some (.tup xs)) : SqT K H a xs := .inl (.inl h)
theorem Inv.list (I : Inv X pins σ H s) (h : SqL X.K H a xs) : ∃ its : List Value, Vals xs its ∧ PlainL s.heap a its.toArray ∧ xs.length ≤ sizeLine := by
  rcases h with h | ⟨o, its, n, hk, hc, hd, hs, hz, r⟩
  · obtain ⟨z, its, n, r, e⟩ := h.ok I.hok
    exact ⟨its, r, ⟨_, n, e, rfl, rfl, rfl⟩, z⟩
  · refine ⟨its.toList, r, ⟨o, n, I.kIn a o hk, hc, hd, by simpa using hs⟩, ?_⟩
    have e := r.length
    simp only [Array.length_toList] at e
    omega
theorem Inv.tuple (I : Inv X pins σ H s) (h : SqT X.K H a xs) : ∃ its : List Value, Vals xs its ∧ IsTup s.heap a its.toArray ∧ xs.length ≤ sizeLine := by
  rcases h with h | ⟨o, its, n, hk, hc, hs, hz, r⟩
  · obtain ⟨z, its, r, p⟩ := h.ok I.hok
    exact ⟨its, r, p, z⟩
  · refine ⟨its.toList, r, ⟨o, I.kIn a o hk, hc, n, by simpa using hs⟩, ?_⟩
    have e := r.length
    simp only [Array.length_toList] at e
    omega
theorem Inv.list_inj (I : Inv X pins σ H s) (h : SqL X.K H a xs) (h' : SqL X.K H a ys) : xs = ys := by
  obtain ⟨its, r, ⟨o, n, e, _, _, d⟩, _⟩ := I.list h
  obtain ⟨its', r', ⟨o', n', e', _, _, d'⟩, _⟩ := I.list h'
  rw [e] at e'; cases e'
  rw [d] at d'
  injection d' with d1 _
  have : its = its' := by simpa using congrArg Array.toList d1
  subst this
  exact r.inj r'
theorem Inv.tuple_inj (I : Inv X pins σ H s) (h : SqT X.K H a xs) (h' : SqT X.K H a ys) : xs = ys := by
  obtain ⟨its, r, ⟨o, e, _, n, d⟩, _⟩ := I.tuple h
  obtain ⟨its', r', ⟨o', e', _, n', d'⟩, _⟩ := I.tuple h'
  rw [e] at e'; cases e'
  rw [d] at d'
  injection d' with d1 _
  have : its = its' := by simpa using congrArg Array.toList d1
  subst this
  exact r.inj r'
end

abbrev Cx.wish (X : Cx) (E : Value → Shared → Prop) : Cx := { X with xe := E }
abbrev Cx.nox (X : Cx) : Cx := X.wish fun _ _ => False
theorem Cx.Ok.wish {X : Cx} (ok : X.Ok) (E : Value → Shared → Prop) : (X.wish E).Ok :=
  ⟨ok.mod, ok.kind, ok.glob, ok.blt, ok.above, ok.inj, ok.has, ok.cab, ok.hd, ok.frames, ok.stk, ok.exf, ok.bs, ok.bsz, ok.noex, ok.exfs, ok.funs, ok.frf⟩
theorem Cx.Ok.unwish {X : Cx} {E : Value → Shared → Prop} (ok : (X.wish E).Ok) : X.Ok :=
  ⟨ok.mod, ok.kind, ok.glob, ok.blt, ok.above, ok.inj, ok.has, ok.cab, ok.hd, ok.frames, ok.stk, ok.exf, ok.bs, ok.bsz, ok.noex, ok.exfs, ok.funs, ok.frf⟩
section
variable {X : Cx} {pins : List (Addr × Obj)} {σ : St} {H : Hp} {s : Shared} {E : Value → Shared → Prop}
theorem Inv.wish (I : Inv X pins σ H s) (E : Value → Shared → Prop) : Inv (X.wish E) pins σ H s := ⟨I.ok.wish E, I.os, I.bare, I.base, I.loc, I.cell, I.free, I.freeC, I.pin, I.hok, I.len⟩
theorem Inv.unwish (I : Inv (X.wish E) pins σ H s) : Inv X pins σ H s := ⟨I.ok.unwish, I.os, I.bare, I.base, I.loc, I.cell, I.free, I.freeC, I.pin, I.hok, I.len⟩
theorem SP.unwish {D : Ends} {f : Flow} {s' : Shared} (h : SP (X.wish E) pins D f s') : SP X pins D f s' := by
  cases f with
  | next => obtain ⟨σ', H', I, q⟩ := h; exact ⟨σ', H', I.unwish, q⟩
  | brk => obtain ⟨σ', H', I, q⟩ := h; exact ⟨σ', H', I.unwish, q⟩
  | cont => obtain ⟨σ', H', I, q⟩ := h; exact ⟨σ', H', I.unwish, q⟩
  | ret u => obtain ⟨v, σ', H', I, r, q⟩ := h; exact ⟨v, σ', H', I.unwish, r, q⟩
theorem PE.nox {e : Expr} {t : TE} (h : PE X.nox e t) : PE X e t := fun pins s σ H Q I hw =>
  wpAny_mono (h pins s σ H Q (I.wish _) hw) (fun _ _ ⟨v, H', I', r, q⟩ => ⟨v, H', I'.unwish, r, q⟩) fun _ _ z => False.elim z
theorem PT.nox {e : Expr} {t : TT} (h : PT X.nox e t) : PT X e t := fun pins s σ H Q I hw =>
  wpAny_mono (h pins s σ H Q (I.wish _) hw) (fun _ _ ⟨H', I', q⟩ => ⟨H', I'.unwish, q⟩) fun _ _ z => False.elim z
theorem PSs.nox {st : List Stmt} {t : TS} (h : PSs X.nox st t) : PSs X st t := fun pins s σ H D I hw =>
  wpAny_mono (h pins s σ H D (I.wish _) hw) (fun _ _ q => q.unwish) fun _ _ z => False.elim z
end

section
variable {X : Cx} {st : Stmt} {rest : List Stmt} {t u : TS} {e : Expr} {te : TE} {pos : Pos}
def tNext : TS := fun D σ H => D.nx σ H
def tSeq (t u : TS) : TS := fun D σ H => t { D with nx := u D } σ H
theorem pss_nil : PSs X [] tNext := fun _ _ σ H _ I h => wpAny_execs_nil ⟨σ, H, I, h⟩
theorem pss_cons (h1 : PS X st t) (h2 : PSs X rest u) : PSs X (st :: rest) (tSeq t u) := by
  intro pins s σ H D I h
  refine wpAny_execs_cons (thn (h1 pins s σ H { D with nx := u D } I h) fun f s1 q => ?_)
  cases f with
  | next =>
    obtain ⟨σ', H', I', q⟩ := q
    exact h2 pins s1 σ' H' D I' q
  | ret v => exact q
  | brk => exact q
  | cont => exact q
theorem pss_one (h1 : PS X st t) : PSs X [st] t := by
  intro pins s σ H D I h
  refine wpAny_execs_cons (thn (h1 pins s σ H D I h) fun f s1 q => ?_)
  cases f with
  | next => exact wpAny_execs_nil q
  | ret v => exact q
  | brk => exact q
  | cont => exact q
theorem Inv.quiet {pins : List (Addr × Obj)} {σ : St} {H : Hp} {s : Shared} (I : Inv X pins σ H s) : interactive X.env = false := by simp [interactive, I.ok.kind]
def tDrop (te : TE) : TS := fun D σ H => te σ H fun _ H1 => D.nx σ H1
theorem ps_expr (he : PE X e te) (hs : swapsWith e none pos.line X.env = pure false := by rfl) : PS X (.Expr e pos) (tDrop te) := by
  intro pins s σ H D I h
  exact wpAny_Expr_any (thn (he pins s σ H _ I h) fun v s1 ⟨x, H1, I1, r1, q1⟩ => ⟨σ, H1, I1, q1⟩) I.quiet hs
def tRet (te : TE) : TS := fun D σ H => te σ H D.rt
theorem ps_ret (he : PE X e te) : PS X (.Return (some e) pos) (tRet te) := by
  intro pins s σ H D I h
  exact wpAny_Return_some (thn (he pins s σ H _ I h) fun v s1 ⟨x, H1, I1, r1, q1⟩ => ⟨x, σ, H1, I1, r1, q1⟩)
def tRetN : TS := fun D _ H => D.rt .non H
def tIfS (c : TT) (t u : TS) : TS := fun D σ H => c σ H fun b H1 => if b = true then t D σ H1 else u D σ H1
theorem ps_if {c : Expr} {a b : List Stmt} {tc : TT} (hc : PT X c tc) (ha : PSs X a t) (hb : PSs X b u) : PS X (.If c a b pos) (tIfS tc t u) := by
  intro pins s σ H D I h
  refine wpAny_If (thn (hc pins s σ H _ I h) fun d s1 ⟨H1, I1, q1⟩ => ?_)
  cases d with
  | true => exact ha pins s1 σ H1 D I1 q1
  | false => exact hb pins s1 σ H1 D I1 q1
end

abbrev TG := V → St → Hp → (St → Hp → Prop) → Prop
abbrev TGs := List V → St → Hp → (St → Hp → Prop) → Prop
def PG (X : Cx) (target : Expr) (t : TG) : Prop :=
  ∀ (pins : List (Addr × Obj)) (s : Shared) (σ : St) (H : Hp) (v : V) (u : Value) (Q : St → Hp → Prop), Inv X pins σ H s → RelV v u → t v σ H Q →
    wpAny (model X.prog X.w) X.A (assign target X.env u) (fun _ s' => ∃ σ' H', Inv X pins σ' H' s' ∧ Q σ' H') X.xe s
def PGs (X : Cx) (ts : List Expr) (t : TGs) : Prop :=
  ∀ (pins : List (Addr × Obj)) (s : Shared) (σ : St) (H : Hp) (vs : List V) (us : List Value) (Q : St → Hp → Prop), Inv X pins σ H s → Vals vs us → t vs σ H Q →
    wpAny (model X.prog X.w) X.A (assignInOrder ((assignEach ts X.env).map (·.2)) us) (fun _ s' => ∃ σ' H', Inv X pins σ' H' s' ∧ Q σ' H') X.xe s
abbrev TSet := V → V → V → Hp → (Hp → Prop) → Prop
def PSet (X : Cx) (t : TSet) : Prop :=
  ∀ (pins : List (Addr × Obj)) (s : Shared) (σ : St) (H : Hp) (o i v : V) (ov iv u : Value) (Q : Hp → Prop), Inv X pins σ H s → RelV o ov → RelV i iv → RelV v u → t o i v H Q →
    wpAny (model X.prog X.w) X.A (setItem ov iv u) (fun _ s' => ∃ H', Inv X pins σ H' s' ∧ Q H') X.xe s
section
variable {X : Cx} {pos : Pos}
def gName (i : Nat) : TG := fun v σ H Q => Q (σ.set i (some v)) H
theorem pg_name {i : Nat} {x : Str} (hN : X.N.Nodup) (hi : X.N[i]? = some x) (hx : Loc X.env.scope x) (hf : X.fn x = true ∨ X.env.scope.names.lookup x = some .local := by first | exact .inl rfl | exact .inr rfl | assumption) : PG X (.Name x pos) (gName i) := by
  intro pins s σ H v u Q I r h
  exact wpAny_assign_Name (store_ok I hN hi hx r (fun s' I' => ⟨_, H, I', h⟩) hf)
def gNil : TGs := fun vs σ H Q => vs = [] ∧ Q σ H
def gCons (t : TG) (u : TGs) : TGs := fun vs σ H Q => ∃ v r, vs = v :: r ∧ t v σ H fun σ' H' => u r σ' H' Q
theorem pgs_nil : PGs X [] gNil := by
  intro pins s σ H vs us Q I r h
  obtain ⟨e, h⟩ := h
  subst e
  cases r
  exact assignInOrder_nil ⟨σ, H, I, h⟩
theorem pgs_cons {e : Expr} {es : List Expr} {t : TG} {u : TGs} (h1 : PG X e t) (h2 : PGs X es u)
    (hs : (assignEach (e :: es) X.env).map (·.2) = assign e X.env :: (assignEach es X.env).map (·.2) := by rfl) : PGs X (e :: es) (gCons t u) := by
  intro pins s σ H vs us Q I r h
  obtain ⟨v, vr, e1, h⟩ := h
  subst e1
  cases r with
  | cons r rr =>
    rw [hs]
    refine assignInOrder_cons (thn (h1 pins s σ H _ _ _ I r h) fun _ s1 ⟨σ1, H1, I1, q1⟩ => ?_)
    exact h2 pins s1 σ1 H1 _ _ Q I1 rr q1
def gTup (K : PySem.W.Frag) (n : Nat) (t : TGs) : TG := fun v σ H Q => ∃ a xs, v = .ref a ∧ SqT K H a xs ∧ xs.length = n ∧ t xs σ H Q
theorem pg_tup {es : List Expr} {k : Nat} {t : TGs} {n : Nat} (hc : X.calm = true) (h : PGs X es t)
    (hn : (assignEach es X.env).length = n := by rfl) (hst : (assignEach es X.env).findIdx? (·.1) = none := by rfl) : PG X (.Tuple es k pos) (gTup X.K n t) := by
  intro pins s σ H v u Q I r hw
  obtain ⟨a, xs, e1, hq, hl, hw⟩ := hw
  subst e1
  cases r
  obtain ⟨its, rv, ht, hz⟩ := I.tuple hq
  refine assign_Tuple_tuple (I.ok.hd hc) ht (by simp [hn, ← hl, rv.length]) hst fun h' hx => ?_
  have I1 : Inv X pins σ H { s with heap := h' } := I.kept (t' := s.toks) fun b o e => hx b o (Nat.ne_of_lt (Heap.lt_size e)) e
  exact h pins _ σ H xs _ Q I1 (by simpa using rv) hw
def gSub (to ti : TE) (t : TSet) : TG := fun v σ H Q => to σ H fun o H1 => ti σ H1 fun i H2 => t o i v H2 fun H3 => Q σ H3
def tAsg (te : TE) (g : TG) : TS := fun D σ H => te σ H fun x H1 => g x σ H1 D.nx
theorem ps_asg {tg e : Expr} {te : TE} {g : TG} (he : PE X e te) (hg : PG X tg g) (hs : swapsWithSole [tg] e pos.line X.env = pure false := by rfl) (hw : swappedStores [tg] e X.env = pure none := by rfl)
    (h1 : (assignEach [tg] X.env).map (·.2) = [assign tg X.env] := by rfl) : PS X (.Assign [tg] e pos) (tAsg te g) := by
  intro pins s σ H D I h
  refine wpAny_Assign_stores (thn (he pins s σ H _ I h) fun v s1 ⟨x, H1, I1, r1, q1⟩ => ?_) hs hw
  rw [h1]
  exact thn (hg pins s1 σ H1 x v _ I1 r1 q1) fun _ s2 q => q
theorem ps_set {i : Nat} {x : Str} {e : Expr} {te : TE} {pos' : Pos} (hN : X.N.Nodup) (hi : X.N[i]? = some x) (hx : Loc X.env.scope x) (he : PE X e te) (hs : swapsWith e (some (.Name x pos')) pos.line X.env = pure false := by rfl) (hf : X.fn x = true ∨ X.env.scope.names.lookup x = some .local := by first | exact .inl rfl | exact .inr rfl | assumption) :
    PS X (.Assign [.Name x pos'] e pos) (tAsg te (gName i)) := by
  intro pins s σ H D I h
  refine wpAny_Assign_Name (thn (he pins s σ H _ I h) fun v s1 ⟨y, H1, I1, r1, q1⟩ => ?_) hs
  exact store_ok I1 hN hi hx r1 (fun s2 I2 => ⟨_, H1, I2, q1⟩) hf
def tPar (i j : Nat) (ta : TA) : TS := fun D σ H => ta σ H fun vs H1 => ∃ v w, vs = [v, w] ∧ D.nx ((σ.set i (some v)).set j (some w)) H1
end

section
variable {X : Cx} {pos : Pos}
end

structure It where
  go : Nat → Hp → Prop
  yld : Nat → Hp → V → Hp → Prop
  stop : Nat → Hp → Prop
def FpOk (X : Cx) (pins : List (Addr × Obj)) (H : Hp) (b : Addr) : Prop :=
  H b = none ∧ b ≠ X.env.locals ∧ b ∉ X.fs ∧ (b ∈ X.ex ∨ X.s₀.heap.objs.size ≤ b) ∧ (∀ x c, X.env.cells.lookup x = some c → c ≠ b) ∧ ∀ p ∈ X.pn ++ pins, p.1 ≠ b
theorem Inv.fpOk {X : Cx} {pins : List (Addr × Obj)} {σ : St} {H H' : Hp} {s : Shared} {b : Addr} (I : Inv X pins σ H s) (hb : s.heap.objs.size ≤ b) (hn : H' b = none) : FpOk X pins H' b := by
  refine ⟨hn, Nat.ne_of_gt (Nat.lt_of_lt_of_le I.lt hb), I.nofs hb, .inr (Nat.le_trans I.sz hb), fun x c e z => ?_, fun p hp z => ?_⟩
  · obtain ⟨v, q⟩ := I.cell x c e
    exact absurd (Nat.lt_of_lt_of_le q.lt (by rw [z]; exact hb)) (Nat.lt_irrefl _)
  · exact absurd (Nat.lt_of_lt_of_le (Heap.lt_size (I.pin p hp).1) (by rw [z]; exact hb)) (Nat.lt_irrefl _)
structure Turn (P : Program) (w : World) (K : PySem.W.Frag) (tg : Expr) (J : It) (fp : List Addr) (it : Addr) (tn : Nat → Heap → Prop) : Prop where
  mem : it ∈ fp
  obj : ∀ i h, tn i h → ∀ b ∈ fp, ∃ o, h.get? b = some o ∧ ∀ v, o.data ≠ .cell v
  keep : ∀ i h h', tn i h → (∀ b ∈ fp, ∀ o, h.get? b = some o → h'.get? b = some o) → tn i h'
  item : ∀ (X : Cx), X.prog = P → X.w = w → X.K = K → X.calm = true → ∀ (i : Nat) (pins : List (Addr × Obj)) (s : Shared) (σ : St) (H : Hp) (E : Value → Shared → Prop), Inv X pins σ H s → (∀ b ∈ fp, FpOk X pins H b) → tn i s.heap → J.go i H →
    wpAny (model P w) X.A (pyNext (.ref it)) (fun r s1 => ∃ u, r = some u ∧
      wpAny (model P w) X.A (letOwnedTupleGo tg (.ref it) u) (fun _ s2 => ∃ x H', Inv X pins σ H' s2 ∧ RelV x u ∧ J.yld i H x H' ∧ tn (i + 1) s2.heap ∧ ∀ b ∈ fp, H' b = none) E s1) E s
  done : ∀ (X : Cx), X.prog = P → X.w = w → X.K = K → X.calm = true → ∀ (i : Nat) (pins : List (Addr × Obj)) (s : Shared) (σ : St) (H : Hp) (E : Value → Shared → Prop), Inv X pins σ H s → (∀ b ∈ fp, FpOk X pins H b) → tn i s.heap → J.stop i H →
    wpAny (model P w) X.A (pyNext (.ref it)) (fun r s1 => r = none ∧ Inv X pins σ H s1) E s
  self : ∀ (A : Around) (i : Nat) (s : Shared) (Q : Value → Shared → Prop) (E : Value → Shared → Prop), tn i s.heap → Q (.ref it) s → wpAny (model P w) A (pyIter (.ref it)) Q E s
abbrev TI := St → Hp → (It → Hp → Prop) → Prop
def PIE (X : Cx) (pins : List (Addr × Obj)) (σ : St) (tg : Expr) (R : It → Hp → Prop) (itv : Value) (s2 : Shared) : Prop :=
  ∃ (it : Addr) (fp : List Addr) (tn : Nat → Heap → Prop) (J : It) (H' : Hp), itv = .ref it ∧ Inv X pins σ H' s2 ∧ Turn X.prog X.w X.K tg J fp it tn ∧ tn 0 s2.heap ∧ (∀ b ∈ fp, FpOk X pins H' b) ∧ R J H'
def PI (X : Cx) (tg iter : Expr) (wi : TI) : Prop :=
  ∀ (pins : List (Addr × Obj)) (s : Shared) (σ : St) (H : Hp) (R : It → Hp → Prop), Inv X pins σ H s → wi σ H R →
    wpAny (model X.prog X.w) X.A (eval iter X.env) (fun v s1 => wpAny (model X.prog X.w) X.A (pyIter v) (PIE X pins σ tg R) X.xe s1) X.xe s

theorem go_of {M : Model} {A : Around} {E : Value → Shared → Prop} {s : Shared} {tg : Expr} {it : Addr} {u : Value} {o : Obj} {n : String} {vs : Array Value} {Q : Unit → Shared → Prop} (ho : s.heap.get? it = some o) (hc : o.cls = .type n) (hd : o.data = .fields vs)
    (hn : ["enumerate", "zip", "dict_itemiterator", "dict_reverseitemiterator", "odict_iterator", "itertools.zip_longest", "itertools.pairwise"].contains n = false) (hQ : Q () s) : wpAny M A (letOwnedTupleGo tg (.ref it) u) Q E s := by
  unfold letOwnedTupleGo
  cases tg <;> first
    | exact wpAny_pure hQ
    | (cases u <;> first
        | exact wpAny_pure hQ
        | (refine wpAny_bind (wpAny_load ho ?_)
           rw [hc, hd]
           show wpAny M A (if (["enumerate", "zip", "dict_itemiterator", "dict_reverseitemiterator", "odict_iterator", "itertools.zip_longest", "itertools.pairwise"].contains n && vs[0]? == some (rawInt _)) = true then _ else _) Q E s
           rw [if_neg (by intro h; rw [hn, Bool.false_and] at h; cases h)]
           exact wpAny_pure hQ))

def Itl (K : PySem.W.Frag) (a : Addr) : It :=
  ⟨fun i H => ∃ xs x, SqL K H a xs ∧ xs[i]? = some x, fun i H x H' => H' = H ∧ ∀ xs, SqL K H a xs → xs[i]? = some x, fun i H => ∃ xs, SqL K H a xs ∧ xs.length ≤ i⟩
def Itt (K : PySem.W.Frag) (a : Addr) : It :=
  ⟨fun i H => ∃ xs x, SqT K H a xs ∧ xs[i]? = some x, fun i H x H' => H' = H ∧ ∀ xs, SqT K H a xs → xs[i]? = some x, fun i H => ∃ xs, SqT K H a xs ∧ xs.length ≤ i⟩
def Itr (lo : Int) (n : Nat) : It := ⟨fun i _ => i < n, fun i H x H' => H' = H ∧ x = .int (lo + i), fun i _ => n ≤ i⟩
theorem turn_list {P : Program} {w : World} {K : PySem.W.Frag} {tg : Expr} (a it : Addr) : Turn P w K tg (Itl K a) [it] it (fun i h => h.IsListIter it a i) where
  mem := by simp
  obj := fun i h st b hb => by
    have e : b = it := by simpa using hb
    subst e
    obtain ⟨o, e, c, d⟩ := st
    exact ⟨o, e, fun v z => by rw [d] at z; cases z⟩
  keep := fun i h h' st k => st.at fun o e => k it (by simp) o e
  item := by
    intro X hP hw hK hc i pins s σ H E I hf st hg
    subst hP hw hK
    obtain ⟨xs, x, hq, hx⟩ := hg
    obtain ⟨its, rv, p, hz⟩ := I.list hq
    obtain ⟨u, hu, ru⟩ := rv.get hx
    obtain ⟨f0, f1, f2, f3, f4, f5⟩ := hf it (by simp)
    refine wpAny_pyNext_list_item st p.isList (x := u) (by simpa using hu) fun h' st' sb => ?_
    have I1 : Inv X pins σ H { s with heap := h' } := I.turned (t' := s.toks) (fun b o hb e => (sb.2 b hb).trans e) f0 f1 f3 f4 f5
    obtain ⟨o, e, c, d⟩ := id st'
    exact ⟨u, rfl, go_of (s := { s with heap := h' }) e c d (by decide) ⟨x, H, I1, ru, ⟨rfl, fun ys hy => by rw [I.list_inj hy hq]; exact hx⟩, st', fun b hb => (hf b hb).1⟩⟩
  done := by
    intro X hP hw hK hc i pins s σ H E I hf st hg
    subst hP hw hK
    obtain ⟨xs, hq, hx⟩ := hg
    obtain ⟨its, rv, p, hz⟩ := I.list hq
    obtain ⟨f0, f1, f2, f3, f4, f5⟩ := hf it (by simp)
    have hl := rv.length
    exact wpAny_pyNext_list_end (I.ok.hd hc) st p.isList (by simp; omega) fun h' eb => ⟨rfl, I.turned (t' := s.toks) (fun b o hb e => eb b o hb e) f0 f1 f3 f4 f5⟩
  self := fun _ _ _ _ _ st h => wpAny_pyIter_listiter st h
theorem turn_tuple {P : Program} {w : World} {K : PySem.W.Frag} {tg : Expr} (a it : Addr) : Turn P w K tg (Itt K a) [it] it (fun i h => h.IsTupleIter it a i) where
  mem := by simp
  obj := fun i h st b hb => by
    have e : b = it := by simpa using hb
    subst e
    obtain ⟨o, e, c, d⟩ := st
    exact ⟨o, e, fun v z => by rw [d] at z; cases z⟩
  keep := fun i h h' st k => st.at fun o e => k it (by simp) o e
  item := by
    intro X hP hw hK hc i pins s σ H E I hf st hg
    subst hP hw hK
    obtain ⟨xs, x, hq, hx⟩ := hg
    obtain ⟨its, rv, p, hz⟩ := I.tuple hq
    obtain ⟨u, hu, ru⟩ := rv.get hx
    obtain ⟨f0, f1, f2, f3, f4, f5⟩ := hf it (by simp)
    refine wpAny_pyNext_tuple_item st (show s.heap.IsTuple a its.toArray from p) (x := u) (by simpa using hu) fun h' st' sb => ?_
    have I1 : Inv X pins σ H { s with heap := h' } := I.turned (t' := s.toks) (fun b o hb e => (sb.2 b hb).trans e) f0 f1 f3 f4 f5
    obtain ⟨o, e, c, d⟩ := id st'
    exact ⟨u, rfl, go_of (s := { s with heap := h' }) e c d (by decide) ⟨x, H, I1, ru, ⟨rfl, fun ys hy => by rw [I.tuple_inj hy hq]; exact hx⟩, st', fun b hb => (hf b hb).1⟩⟩
  done := by
    intro X hP hw hK hc i pins s σ H E I hf st hg
    subst hP hw hK
    obtain ⟨xs, hq, hx⟩ := hg
    obtain ⟨its, rv, p, hz⟩ := I.tuple hq
    obtain ⟨f0, f1, f2, f3, f4, f5⟩ := hf it (by simp)
    have hl := rv.length
    exact wpAny_pyNext_tuple_end (I.ok.hd hc) st (show s.heap.IsTuple a its.toArray from p) (by simp; omega) fun h' eb => ⟨rfl, I.turned (t' := s.toks) (fun b o hb e => eb b o hb e) f0 f1 f3 f4 f5⟩
  self := fun _ _ _ _ _ st h => wpAny_pyIter_tupleiter st h
theorem turn_range {P : Program} {w : World} {K : PySem.W.Frag} {tg : Expr} (it : Addr) (lo : Int) (n : Nat) : Turn P w K tg (Itr lo n) [it] it (fun i h => IsRangeIter h it (lo + (i : Nat) * 1) ((n : Int) - (i : Nat)) 1) where
  mem := by simp
  obj := fun i h st b hb => by
    have e : b = it := by simpa using hb
    subst e
    exact ⟨_, st, fun v z => by
      have z' : Data.fields _ = Data.cell v := z
      cases z'⟩
  keep := fun i h h' st k => k it (by simp) _ st
  item := by
    intro X hP hw hK hc i pins s σ H E I hf st hg
    subst hP hw hK
    obtain ⟨f0, f1, f2, f3, f4, f5⟩ := hf it (by simp)
    have W := Walks.range (prog := X.prog) (w := X.w) (I.ok.hd hc) it lo 1 n
    refine W.item i s _ _ hg st fun v h' tk hv st' kk => ?_
    obtain ⟨t, rfl⟩ := hv
    have I1 : Inv X pins σ H { s with heap := h', toks := tk } := I.turned (fun b o hb e => kk b o (by simpa using hb) e) f0 f1 f3 f4 f5
    refine ⟨_, rfl, go_of (s := { s with heap := h', toks := tk }) (n := "range_iterator") st' rfl rfl (by decide) ⟨.int (lo + i), H, I1, ⟨t, ?_⟩, ⟨rfl, rfl⟩, st', fun b hb => (hf b hb).1⟩⟩
    rw [Int.mul_one]
  done := by
    intro X hP hw hK hc i pins s σ H E I hf st hg
    subst hP hw hK
    obtain ⟨f0, f1, f2, f3, f4, f5⟩ := hf it (by simp)
    exact wpAny_pyNext_range_end (I.ok.hd hc) st (by have : n ≤ i := hg; omega) fun h' eb => ⟨rfl, I.turned (t' := s.toks) (fun b o hb e => eb b o hb e) f0 f1 f3 f4 f5⟩
  self := fun _ _ _ _ _ st h => wpAny_pyIter_rangeiter st h
end L2

namespace L2
open PySem PySem.Spec PyProof.Rows
section
variable {X : Cx} {tg : Expr}
def iList (K : PySem.W.Frag) (tl : TE) : TI := fun σ H R => tl σ H fun x H1 => ∃ a, x = .ref a ∧ (∃ xs, SqL K H1 a xs) ∧ R (Itl K a) H1
theorem range_it {pins : List (Addr × Obj)} {σ : St} {H : Hp} {s : Shared} {R : It → Hp → Prop} {E : Value → Shared → Prop} {lo hi : Int} {t u v : Tok} {tk : Nat} (I : Inv X pins σ H s) (h1 : -(2 ^ 62) ≤ lo) (h2 : lo < 2 ^ 62) (h3 : -(2 ^ 62) ≤ hi) (h4 : hi < 2 ^ 62)
    (q : R (Itr lo (hi - lo).toNat) H) : wpAny (model X.prog X.w) X.A (pyIter (.ref s.heap.objs.size)) (PIE X pins σ tg R) E { s with heap := s.heap.push { cls := .type "range", data := .fields #[.int lo t, .int hi u, .int 1 v] }, toks := tk } := by
  refine wpAny_pyIter_range (IsRange.new ..) (small_one h1 h2 h3 h4) ?_
  have I1 : Inv X pins σ H { s with heap := s.heap.push { cls := .type "range", data := .fields #[.int lo t, .int hi u, .int 1 v] }, toks := tk } := I.kept fun b o e => Heap.get?_push_of_some _ e
  refine ⟨(s.heap.push { cls := .type "range", data := .fields #[.int lo t, .int hi u, .int 1 v] }).objs.size, [(s.heap.push { cls := .type "range", data := .fields #[.int lo t, .int hi u, .int 1 v] }).objs.size], _, _, H, rfl,
    I1.kept (t' := tk) fun b o e => Heap.get?_push_of_some _ e, turn_range _ lo (hi - lo).toNat, ?_, fun b hb => ?_, q⟩
  · have e1 : lo + ((0 : Nat) : Int) * 1 = lo := by simp
    have e2 : (((hi - lo).toNat : Nat) : Int) - ((0 : Nat) : Int) = Builtin.Range.rangeSize lo hi 1 := by rw [rangeSize_one]; split <;> omega
    show IsRangeIter _ _ (lo + ((0 : Nat) : Int) * 1) ((((hi - lo).toNat : Nat) : Int) - ((0 : Nat) : Int)) 1
    rw [e1, e2]
    exact Heap.get?_push_size _ rfl
  · have e : b = (s.heap.push { cls := .type "range", data := .fields #[.int lo t, .int hi u, .int 1 v] }).objs.size := by simpa using hb
    subst e
    exact I1.fpOk (Nat.le_refl _) (I1.hok.fresh (Nat.le_refl _))
def iRng1 (ta : TA) : TI := fun σ H R => ta σ H fun vs H1 => ∃ j : Int, vs = [.int j] ∧ -(2 ^ 62) ≤ j ∧ j < 2 ^ 62 ∧ R (Itr 0 j.toNat) H1
def iRng2 (ta : TA) : TI := fun σ H R => ta σ H fun vs H1 => ∃ i j : Int, vs = [.int i, .int j] ∧ (-(2 ^ 62) ≤ i ∧ i < 2 ^ 62 ∧ -(2 ^ 62) ≤ j ∧ j < 2 ^ 62) ∧ R (Itr i (j - i).toNat) H1
theorem pi_range1 {a : Expr} {ta : TA} {p pos : Pos} (hg : Gl X "range") (hm : X.mg "range" = none) (ha : PA X [a] ta) (hs : starEach [a] X.env = [(false, eval a X.env)] := by rfl) : PI X tg (.Call (.Name "range" p) [a] [] pos) (iRng1 ta) := by
  intro pins s σ H R I h
  refine Call_ (ld_blt I hg hm boot_range (PyProof.Rows.callWith_type1 (thn (ha pos pins s σ H _ I h) fun us s1 ⟨vs, H1, I1, r1, q1⟩ => ?_) hs rfl))
  obtain ⟨j, e, q1, q2, q⟩ := q1
  subst e
  cases r1 with
  | cons r rr =>
    cases rr
    obtain ⟨t, rfl⟩ := r
    exact call_range_1 (range_it I1 (by omega) (by omega) q1 q2 (by simpa using q))
def tFor (wi : TI) (g : TG) (tb : TS) : TS := fun D σ H => wi σ H fun J H1 => ∃ W : Nat → Nat → St → Hp → Prop, (∃ m, W 0 m σ H1) ∧ ∀ i m σ H, W i m σ H →
  (J.stop i H ∧ D.nx σ H) ∨ (J.go i H ∧ ∃ N : St → Hp → Prop, (∀ σ' H', N σ' H' → ∃ m', m' < m ∧ W (i + 1) m' σ' H') ∧ ∀ x H', J.yld i H x H' → g x σ H' fun σ2 H2 => tb { D with nx := N, ct := N, bk := D.nx } σ2 H2)
def pinsAt (fp : List Addr) (h : Heap) : List (Addr × Obj) := fp.filterMap fun b => (h.get? b).map fun o => (b, o)
theorem mem_pinsAt {fp : List Addr} {h : Heap} {b : Addr} {o : Obj} (hb : b ∈ fp) (e : h.get? b = some o) : (b, o) ∈ pinsAt fp h := List.mem_filterMap.mpr ⟨b, hb, by rw [e]; rfl⟩
theorem of_pinsAt {fp : List Addr} {h : Heap} {p : Addr × Obj} (hp : p ∈ pinsAt fp h) : p.1 ∈ fp ∧ h.get? p.1 = some p.2 := by
  obtain ⟨b, hb, e⟩ := List.mem_filterMap.mp hp
  cases q : h.get? b with
  | none => rw [q] at e; cases e
  | some o =>
    rw [q] at e
    have e' : (b, o) = p := Option.some.inj e
    subst e'
    exact ⟨hb, q⟩
theorem Inv.pinned {pins : List (Addr × Obj)} {σ : St} {H : Hp} {s : Shared} {fp : List Addr} (I : Inv X pins σ H s) (hf : ∀ b ∈ fp, FpOk X pins H b) (ho : ∀ b ∈ fp, ∃ o, s.heap.get? b = some o ∧ ∀ v, o.data ≠ .cell v) : Inv X (pins ++ pinsAt fp s.heap) σ H s :=
  I.pins_of fun p hp => (List.mem_append.mp hp).elim (fun z => I.pin p (List.mem_append_right _ z)) fun z => by
    obtain ⟨hb, e⟩ := of_pinsAt z
    obtain ⟨f0, f1, f2, _⟩ := hf p.1 hb
    obtain ⟨o, e', d⟩ := ho p.1 hb
    rw [e] at e'; cases e'
    exact ⟨e, f0, f1, f2, d⟩
theorem Inv.unpinned {pins pl : List (Addr × Obj)} {σ : St} {H : Hp} {s : Shared} (I : Inv X (pins ++ pl) σ H s) : Inv X pins σ H s := I.pins_of fun p hp => I.pin p (List.mem_append_right _ (List.mem_append_left _ hp))
theorem ps_for {iter : Expr} {body : List Stmt} {wi : TI} {g : TG} {tb : TS} {pos : Pos} (hp : PassesOwn (model X.prog X.w) X.A X.env X.xe) (hc : X.calm = true) (hi : PI X tg iter wi) (hg : PG X tg g) (hb : PSs X body tb)
    (hs : ∀ x, foldedSetIterable iter X.env x = pure x := by intro _; rfl) : PS X (.For tg iter body [] pos) (tFor wi g tb) := by
  intro pins s σ H D I h
  refine wpAny_For (thn (hi pins s σ H _ I h) fun v s1 h1 => thn h1 fun itv s2 h2 => ?_) hs
  obtain ⟨it, fp, tn, J, H2, e, I2, T, st2, f2, W, ⟨m0, w0⟩, turn⟩ := h2
  subst e
  -- what stays true of the iterator's objects through the loop
  have stat : ∀ {H' : Hp}, (∀ b ∈ fp, H' b = none) → ∀ b ∈ fp, FpOk X pins H' b := fun hn b hb => ⟨hn b hb, (f2 b hb).2⟩
  refine codeAny_forLoop_any (fun n s' => ∃ i σ' H', Inv X pins σ' H' s' ∧ tn i s'.heap ∧ (∀ b ∈ fp, H' b = none) ∧ W i n σ' H') ?_ m0 ⟨0, σ, H2, I2, st2, fun b hb => (f2 b hb).1, w0⟩
  rintro n s3 ⟨i, σ3, H3, I3, st3, fr3, w3⟩
  rcases turn i n σ3 H3 w3 with ⟨stop, qn⟩ | ⟨go, N, hN, step⟩
  · refine wpAny_passesOwn hp (thn (T.done X rfl rfl rfl hc i pins s3 σ3 H3 X.xe I3 (stat fr3) st3 stop) fun r s4 ⟨hr, I4⟩ => ?_)
    subst hr
    exact wpAny_execs_nil ⟨σ3, H3, I4, qn⟩
  · refine wpAny_passesOwn hp (thn (T.item X rfl rfl rfl hc i pins s3 σ3 H3 X.xe I3 (stat fr3) st3 go) fun r s4 ⟨u, hr, h4⟩ => ?_)
    subst hr
    refine wpAny_passesOwn hp (thn h4 fun _ s5 ⟨x, H5, I5, r5, y5, st5, fr5⟩ => ?_)
    have I5' := I5.pinned (stat fr5) (T.obj _ _ st5)
    refine wpAny_passesOwn hp (thn (hg _ s5 σ3 H5 x u _ I5' r5 (step x H5 y5)) fun _ s6 ⟨σ6, H6, I6, q6⟩ => ?_)
    refine wpAny_passesOwn hp (thn (hb _ s6 σ6 H6 _ I6 q6) fun f s7 q7 => ?_)
    have again : ∀ {σ7 : St} {H7 : Hp}, Inv X (pins ++ pinsAt fp s5.heap) σ7 H7 s7 → N σ7 H7 → ∃ m, m < n ∧ ∃ i σ' H', Inv X pins σ' H' s7 ∧ tn i s7.heap ∧ (∀ b ∈ fp, H' b = none) ∧ W i m σ' H' := fun {σ7 H7} I7 n7 => by
      obtain ⟨m', hm, w7⟩ := hN σ7 H7 n7
      refine ⟨m', hm, i + 1, σ7, H7, I7.unpinned, T.keep _ _ _ st5 fun b hb o e => (I7.pin (b, o) (List.mem_append_right _ (List.mem_append_right _ (mem_pinsAt hb e)))).1, fun b hb => ?_, w7⟩
      obtain ⟨o, e, d⟩ := T.obj _ _ st5 b hb
      exact (I7.pin (b, o) (List.mem_append_right _ (List.mem_append_right _ (mem_pinsAt hb e)))).2.1
    cases f with
    | next => obtain ⟨σ7, H7, I7, n7⟩ := q7; exact again I7 n7
    | cont => obtain ⟨σ7, H7, I7, n7⟩ := q7; exact again I7 n7
    | brk => obtain ⟨σ7, H7, I7, q7⟩ := q7; exact ⟨σ7, H7, I7.unpinned, q7⟩
    | ret v => obtain ⟨x7, σ7, H7, I7, r7, q7⟩ := q7; exact ⟨x7, σ7, H7, I7.unpinned, r7, q7⟩
end

theorem for_range {lo : Int} {n : Nat} {g : TG} {tb : TS} {D : Ends} {σ : St} {H : Hp} (Pv : Nat → St → Hp → Prop) (h0 : Pv 0 σ H)
    (hs : ∀ i σ H, i < n → Pv i σ H → g (.int (lo + i)) σ H fun σ2 H2 => tb { D with nx := Pv (i + 1), ct := Pv (i + 1), bk := D.nx } σ2 H2) (hd : ∀ σ H, Pv n σ H → D.nx σ H) :
    ∃ W : Nat → Nat → St → Hp → Prop, (∃ m, W 0 m σ H) ∧ ∀ i m σ H, W i m σ H →
      ((Itr lo n).stop i H ∧ D.nx σ H) ∨ ((Itr lo n).go i H ∧ ∃ N : St → Hp → Prop, (∀ σ' H', N σ' H' → ∃ m', m' < m ∧ W (i + 1) m' σ' H') ∧ ∀ x H', (Itr lo n).yld i H x H' → g x σ H' fun σ2 H2 => tb { D with nx := N, ct := N, bk := D.nx } σ2 H2) := by
  refine ⟨fun i m σ H => m = n - i ∧ i ≤ n ∧ Pv i σ H, ⟨n, by simp, Nat.zero_le _, h0⟩, ?_⟩
  rintro i m σ H ⟨rfl, hi, p⟩
  by_cases hlt : i < n
  · refine .inr ⟨hlt, Pv (i + 1), fun σ' H' p' => ⟨n - (i + 1), by omega, rfl, hlt, p'⟩, fun x H' y => ?_⟩
    obtain ⟨e, y⟩ := y
    subst e y
    exact hs i σ _ hlt p
  · have e : i = n := by omega
    subst e
    exact .inl ⟨Nat.le_refl _, hd σ H p⟩
end L2

namespace L2
open PySem PySem.Spec PyProof.Rows

abbrev R2 := V → V → Hp → VK → Prop
def OpR (X : Cx) (f : Value → Value → Sem Value) (r : R2) : Prop :=
  ∀ (pins : List (Addr × Obj)) (s : Shared) (σ : St) (H : Hp) (x y : V) (v u : Value) (Q : VK), Inv X pins σ H s → RelV x v → RelV y u → r x y H Q →
    wpAny (model X.prog X.w) X.A (f v u) (EP X pins σ Q) X.xe s
def CallR (X : Cx) (f : Value) (r : List V → Hp → VK → Prop) : Prop :=
  ∀ (pins : List (Addr × Obj)) (s : Shared) (σ : St) (H : Hp) (xs : List V) (us : List Value) (Q : VK), Inv X pins σ H s → Vals xs us → r xs H Q →
    wpAny (model X.prog X.w) X.A (call f us) (EP X pins σ Q) X.xe s
def tOp (r : R2) (ta tb : TE) : TE := fun σ H Q => ta σ H fun x H1 => tb σ H1 fun y H2 => r x y H2 Q
def tUn (r : V → Hp → VK → Prop) (ta : TE) : TE := fun σ H Q => ta σ H fun x H1 => r x H1 Q
def rI (C : Int → Int → Prop) (g : Int → Int → V) : R2 := fun x y H Q => ∃ i j, x = .int i ∧ y = .int j ∧ C i j ∧ Q (g i j) H
def rI0 (g : Int → Int → V) : R2 := fun x y H Q => ∃ i j, x = .int i ∧ y = .int j ∧ Q (g i j) H
def rU (g : Int → V) : V → Hp → VK → Prop := fun x H Q => ∃ i, x = .int i ∧ Q (g i) H

section
variable {X : Cx} {a b c : Expr} {ta tb tc : TE} {pos : Pos}

theorem binT (ha : PE X a ta) (hb : PE X b tb) {pins : List (Addr × Obj)} {s : Shared} {σ : St} {H : Hp} {R : V → V → Hp → Prop} (I : Inv X pins σ H s)
    (h : ta σ H fun x H1 => tb σ H1 fun y H2 => R x y H2) {Q : Value → Shared → Prop} {f : Value → Value → Sem Value}
    (hf : ∀ v u s2 x y H2, Inv X pins σ H2 s2 → RelV x v → RelV y u → R x y H2 → wpAny (model X.prog X.w) X.A (f v u) Q X.xe s2) :
    wpAny (model X.prog X.w) X.A (eval a X.env) (fun v s₁ => wpAny (model X.prog X.w) X.A (eval b X.env) (fun u s₂ => wpAny (model X.prog X.w) X.A (f v u) Q X.xe s₂) X.xe s₁) X.xe s := by
  refine thn (ha pins s σ H _ I h) fun v s1 ⟨x, H1, I1, r1, q1⟩ => ?_
  refine thn (hb pins s1 σ H1 _ I1 q1) fun u s2 ⟨y, H2, I2, r2, q2⟩ => ?_
  exact hf v u s2 x y H2 I2 r1 r2 q2

theorem pe_op {op : Operator} {r : R2} (ho : OpR X (binaryOp op) r) (ha : PE X a ta) (hb : PE X b tb) : PE X (.BinOp a op b pos) (tOp r ta tb) := by
  intro pins s σ H Q I h
  exact wpAny_BinOp (binT ha hb I h fun v u s2 x y H2 I2 rx ry q => ho pins s2 σ H2 x y v u Q I2 rx ry q)
theorem opI {f : Value → Value → Sem Value} {C : Int → Int → Prop} {g : Int → Int → Int}
    (rule : ∀ (i j : Int) (t u : Tok) (s : Shared) (Q : Value → Shared → Prop) (E : Value → Shared → Prop), C i j → Q (.int (g i j) s.toks) { s with toks := s.toks + 1 } → wpAny (model X.prog X.w) X.A (f (.int i t) (.int j u)) Q E s) :
    OpR X f (rI C fun i j => .int (g i j)) := by
  intro pins s σ H x y v u Q I rx ry h
  obtain ⟨i, j, rfl, rfl, hc, q⟩ := h
  obtain ⟨t, rfl⟩ := rx
  obtain ⟨t', rfl⟩ := ry
  exact rule i j t t' s _ _ hc ⟨.int (g i j), H, I.tok _, ⟨_, rfl⟩, q⟩
theorem opI0 {f : Value → Value → Sem Value} {g : Int → Int → Int}
    (rule : ∀ (i j : Int) (t u : Tok) (s : Shared) (Q : Value → Shared → Prop) (E : Value → Shared → Prop), Q (.int (g i j) s.toks) { s with toks := s.toks + 1 } → wpAny (model X.prog X.w) X.A (f (.int i t) (.int j u)) Q E s) :
    OpR X f (rI0 fun i j => .int (g i j)) := by
  intro pins s σ H x y v u Q I rx ry h
  obtain ⟨i, j, rfl, rfl, q⟩ := h
  obtain ⟨t, rfl⟩ := rx
  obtain ⟨t', rfl⟩ := ry
  exact rule i j t t' s _ _ ⟨.int (g i j), H, I.tok _, ⟨_, rfl⟩, q⟩
theorem opB0 {f : Value → Value → Sem Value} {g : Int → Int → Bool}
    (rule : ∀ (i j : Int) (t u : Tok) (s : Shared) (Q : Value → Shared → Prop) (E : Value → Shared → Prop), Q (.bool (g i j)) s → wpAny (model X.prog X.w) X.A (f (.int i t) (.int j u)) Q E s) :
    OpR X f (rI0 fun i j => .bl (g i j)) := by
  intro pins s σ H x y v u Q I rx ry h
  obtain ⟨i, j, rfl, rfl, q⟩ := h
  obtain ⟨t, rfl⟩ := rx
  obtain ⟨t', rfl⟩ := ry
  exact rule i j t t' s _ _ ⟨.bl (g i j), H, I, rfl, q⟩

def CPow (i j : Int) : Prop := 0 ≤ j ∧ j ≤ 1000000 ∧ i.natAbs < 2 ^ 64
def CMul (i j : Int) : Prop := (-(2 ^ 64) < i ∧ i < 2 ^ 64) ∨ (-(2 ^ 64) < j ∧ j < 2 ^ 64)
theorem CMul.ok {i j : Int} (h : CMul i j) : IntMulOk i j := by
  rcases h with ⟨h1, h2⟩ | ⟨h1, h2⟩
  · exact .of_left (intBits_le_64 h1 h2)
  · exact .of_right (intBits_le_64 h1 h2)
theorem op_add : OpR X (binaryOp .Add) (rI0 fun i j => .int (i + j)) := opI0 fun _ _ _ _ _ _ _ q => add_int q
theorem op_mod : OpR X (binaryOp .Mod) (rI (fun _ j => 0 < j) fun i j => .int (i % j)) := opI fun i j _ _ _ _ _ hc q => by
  have h1 : (0 : Int) < j := hc
  exact mod_int' (by omega) (by rw [Int.fmod_eq_emod_of_nonneg i (by omega)]; exact q)
theorem op_pow : OpR X (binaryOp .Pow) (rI CPow fun i j => .int (i ^ j.toNat)) := opI fun _ _ _ _ _ _ _ hc q => pow_int_small hc.1 hc.2.1 hc.2.2 q
end

def scal : V → V → Bool
  | .non, .non => true | .non, .int _ => true | .int _, .non => true | .non, .bl _ => true | .bl _, .non => true | .non, .str _ => true | .str _, .non => true
  | .int _, .int _ => true | .bl _, .bl _ => true | .str _, .str _ => true | .byt _, .byt _ => true
  | .int _, .str _ => true | .str _, .int _ => true | .bl _, .str _ => true | .str _, .bl _ => true
  | _, _ => false
def rEq : R2 := fun x y H Q => scal x y = true ∧ Q (.bl (decide (x = y))) H
def rNe : R2 := fun x y H Q => scal x y = true ∧ Q (.bl (!decide (x = y))) H

theorem dec_int {i j : Int} : decide (V.int i = V.int j) = (i == j) := by
  rw [Bool.eq_iff_iff]
  simp
theorem dec_bl {i j : Bool} : decide (V.bl i = V.bl j) = (i == j) := by
  rw [Bool.eq_iff_iff]
  simp
theorem dec_str {i j : Str} : decide (V.str i = V.str j) = (i == j) := by
  rw [Bool.eq_iff_iff]
  simp
theorem dec_byt {i j : Array UInt8} : decide (V.byt i = V.byt j) = (i.toList == j.toList) := by
  rw [Bool.eq_iff_iff]
  cases i
  cases j
  simp

section
variable {X : Cx} {a b c : Expr} {ta tb tc : TE} {pos : Pos}
theorem fin_bl {pins : List (Addr × Obj)} {σ : St} {H : Hp} {s : Shared} {Q : VK} {k k' : Bool} (I : Inv X pins σ H s) (q : Q (.bl k) H) (e : k = k') : EP X pins σ Q (.bool k') s := by
  subst e
  exact ⟨.bl k, H, I, rfl, q⟩
theorem op_eq : OpR X (compareOp .Eq) rEq := by
  intro pins s σ H x y v u Q I rx ry h
  obtain ⟨hs, q⟩ := h
  cases x with
  | non =>
    cases rx
    cases y with
    | non => cases ry; exact PySem.EqNone.eq_none_none (fin_bl I q (by simp))
    | bl j => cases ry; exact PySem.EqNone.eq_none_bool (fin_bl I q (by simp))
    | int j => obtain ⟨t', rfl⟩ := ry; exact PySem.EqNone.eq_none_int (fin_bl I q (by simp))
    | str j => obtain ⟨t', rfl⟩ := ry; exact PySem.EqNone.eq_none_str (fin_bl I q (by simp))
    | _ => exact absurd (show false = true from hs) Bool.false_ne_true
  | bl i =>
    cases rx
    cases y with
    | non => cases ry; exact PySem.EqNone.eq_bool_none (fin_bl I q (by simp))
    | bl j => cases ry; exact eq_bool (fin_bl I q dec_bl)
    | str j => obtain ⟨t', rfl⟩ := ry; exact PySem.EqMixed.eq_bool_str (fin_bl I q (by simp))
    | _ => exact absurd (show false = true from hs) Bool.false_ne_true
  | int i =>
    obtain ⟨t, rfl⟩ := rx
    cases y with
    | non => cases ry; exact PySem.EqNone.eq_int_none (fin_bl I q (by simp))
    | int j => obtain ⟨t', rfl⟩ := ry; exact eq_int (fin_bl I q dec_int)
    | str j => obtain ⟨t', rfl⟩ := ry; exact PySem.EqMixed.eq_int_str (fin_bl I q (by simp))
    | _ => exact absurd (show false = true from hs) Bool.false_ne_true
  | str i =>
    obtain ⟨t, rfl⟩ := rx
    cases y with
    | non => cases ry; exact PySem.EqNone.eq_str_none (fin_bl I q (by simp))
    | bl j => cases ry; exact PySem.EqMixed.eq_str_bool (fin_bl I q (by simp))
    | int j => obtain ⟨t', rfl⟩ := ry; exact PySem.EqMixed.eq_str_int (fin_bl I q (by simp))
    | str j => obtain ⟨t', rfl⟩ := ry; exact eq_str (fin_bl I q dec_str)
    | _ => exact absurd (show false = true from hs) Bool.false_ne_true
  | byt i =>
    obtain ⟨t, rfl⟩ := rx
    cases y with
    | byt j => obtain ⟨t', rfl⟩ := ry; exact PySem.W.eq_bytes (fin_bl I q dec_byt)
    | _ => exact absurd (show false = true from hs) Bool.false_ne_true
  | _ => cases y <;> exact absurd (show false = true from hs) Bool.false_ne_true
theorem op_ne : OpR X (compareOp .NotEq) rNe := by
  intro pins s σ H x y v u Q I rx ry h
  obtain ⟨hs, q⟩ := h
  cases x with
  | non =>
    cases rx
    cases y with
    | non => cases ry; exact PySem.EqNone.ne_none_none (fin_bl I q (by simp))
    | bl j => cases ry; exact PySem.EqNone.ne_none_bool (fin_bl I q (by simp))
    | int j => obtain ⟨t', rfl⟩ := ry; exact PySem.EqNone.ne_none_int (fin_bl I q (by simp))
    | str j => obtain ⟨t', rfl⟩ := ry; exact PySem.EqNone.ne_none_str (fin_bl I q (by simp))
    | _ => exact absurd (show false = true from hs) Bool.false_ne_true
  | bl i =>
    cases rx
    cases y with
    | non => cases ry; exact PySem.EqNone.ne_bool_none (fin_bl I q (by simp))
    | bl j => cases ry; exact ne_bool (fin_bl I q (congrArg not dec_bl))
    | str j => obtain ⟨t', rfl⟩ := ry; exact PySem.EqMixed.ne_bool_str (fin_bl I q (by simp))
    | _ => exact absurd (show false = true from hs) Bool.false_ne_true
  | int i =>
    obtain ⟨t, rfl⟩ := rx
    cases y with
    | non => cases ry; exact PySem.EqNone.ne_int_none (fin_bl I q (by simp))
    | int j => obtain ⟨t', rfl⟩ := ry; exact ne_int (fin_bl I q (congrArg not dec_int))
    | str j => obtain ⟨t', rfl⟩ := ry; exact PySem.EqMixed.ne_int_str (fin_bl I q (by simp))
    | _ => exact absurd (show false = true from hs) Bool.false_ne_true
  | str i =>
    obtain ⟨t, rfl⟩ := rx
    cases y with
    | non => cases ry; exact PySem.EqNone.ne_str_none (fin_bl I q (by simp))
    | bl j => cases ry; exact PySem.EqMixed.ne_str_bool (fin_bl I q (by simp))
    | int j => obtain ⟨t', rfl⟩ := ry; exact PySem.EqMixed.ne_str_int (fin_bl I q (by simp))
    | str j => obtain ⟨t', rfl⟩ := ry; exact ne_str (fin_bl I q (congrArg not dec_str))
    | _ => exact absurd (show false = true from hs) Bool.false_ne_true
  | byt i =>
    obtain ⟨t, rfl⟩ := rx
    cases y with
    | byt j => obtain ⟨t', rfl⟩ := ry; exact PySem.W.ne_bytes (fin_bl I q (congrArg not dec_byt))
    | _ => exact absurd (show false = true from hs) Bool.false_ne_true
  | _ => cases y <;> exact absurd (show false = true from hs) Bool.false_ne_true

theorem op_lt : OpR X (compareOp .Lt) (rI0 fun i j => .bl (decide (i < j))) := opB0 fun _ _ _ _ _ _ _ q => lt_int q
theorem op_le : OpR X (compareOp .LtE) (rI0 fun i j => .bl (decide (i ≤ j))) := opB0 fun _ _ _ _ _ _ _ q => le_int q
theorem op_gt : OpR X (compareOp .Gt) (rI0 fun i j => .bl (decide (j < i))) := opB0 fun _ _ _ _ _ _ _ q => gt_int q
theorem op_in_str : OpR X (compareOp .In) (fun x y H Q => ∃ i j, x = .str i ∧ y = .str j ∧ Q (.bl (!(Builtin.Str.occurrences j i 0 j.length 1).isEmpty)) H) := by
  intro pins s σ H x y v u Q I rx ry h
  obtain ⟨i, j, rfl, rfl, q⟩ := h
  obtain ⟨t, rfl⟩ := rx
  obtain ⟨t', rfl⟩ := ry
  exact in_str (fin_bl I q rfl)

theorem op_isN : OpR X (compareOp .Is) (fun x y H Q => y = .non ∧ Q (.bl (decide (x = .non))) H) := by
  intro pins s σ H x y v u Q I rx ry h
  obtain ⟨rfl, q⟩ := h
  cases ry
  refine is_none_gen (fin_bl I q ?_)
  cases x <;> first
    | (cases rx; rfl)
    | (obtain ⟨t, rfl⟩ := rx; rfl)
theorem op_notN : OpR X (compareOp .IsNot) (fun x y H Q => y = .non ∧ Q (.bl (!decide (x = .non))) H) := by
  intro pins s σ H x y v u Q I rx ry h
  obtain ⟨rfl, q⟩ := h
  cases ry
  refine isnot_none_gen (fin_bl I q ?_)
  cases x <;> first
    | (cases rx; rfl)
    | (obtain ⟨t, rfl⟩ := rx; rfl)

theorem OpR.or {f : Value → Value → Sem Value} {r r' : R2} (h : OpR X f r) (h' : OpR X f r') : OpR X f (fun x y H Q => r x y H Q ∨ r' x y H Q) := by
  intro pins s σ H x y v u Q I rx ry q
  rcases q with q | q
  · exact h pins s σ H x y v u Q I rx ry q
  · exact h' pins s σ H x y v u Q I rx ry q

theorem nomark (b : Expr) {op : CmpOp} (h : op ≠ .In := by decide) (h2 : op ≠ .NotIn := by decide) : behindInMarks op b = false := by
  have e1 : (op == CmpOp.In) = false := by cases op <;> first | rfl | exact absurd rfl h
  have e2 : (op == CmpOp.NotIn) = false := by cases op <;> first | rfl | exact absurd rfl h2
  cases b <;> simp [behindInMarks, e1, e2]
theorem pe_cmpR {op : CmpOp} {r : R2} (ho : OpR X (compareOp op) r) (ha : PE X a ta) (hb : PE X b tb) (hm : behindInMarks op b = false) : PE X (.Compare a [op] [b] pos) (tOp r ta tb) := by
  intro pins s σ H Q I h
  exact wpAny_Compare1 (binT ha hb I h fun v u s2 x y H2 I2 rx ry q => ho pins s2 σ H2 x y v u Q I2 rx ry q) hm
def tTest (t : TE) : TT := fun σ H Q => t σ H fun x H' => ∃ k, x = .bl k ∧ Q k H'
theorem pt_cmpR {op : CmpOp} {r : R2} (ho : OpR X (compareOp op) r) (ha : PE X a ta) (hb : PE X b tb) (hm : behindInMarks op b = false) : PT X (.Compare a [op] [b] pos) (tTest (tOp r ta tb)) := by
  intro pins s σ H Q I h
  refine wpAny_isTrue_Compare1 (thn (ha pins s σ H _ I h) fun v s1 ⟨x, H1, I1, r1, q1⟩ => thn (hb pins s1 σ H1 _ I1 q1) fun u s2 ⟨y, H2, I2, r2, q2⟩ =>
    thn (ho pins s2 σ H2 x y v u _ I2 r1 r2 q2) fun c s3 ⟨z, H3, I3, r3, k, e, q3⟩ => ?_) hm
  subst e
  cases r3
  exact wpAny_truthy_bool ⟨H3, I3, q3⟩
def tChain (r r' : R2) (ta tb tc : TE) : TE := fun σ H Q => ta σ H fun x H1 => tb σ H1 fun y H2 => r x y H2 fun z H3 => ∃ k, z = .bl k ∧
  (if k = true then tc σ H3 fun w' H4 => r' y w' H4 Q else Q (.bl false) H3)
theorem pt_chain {op op' : CmpOp} {r r' : R2} (ho : OpR X (compareOp op) r) (ho' : OpR X (compareOp op') r') (ha : PE X a ta) (hb : PE X b tb) (hc : PE X c tc)
    (hm : lastMarks [op, op'] [b, c] = false := by with_unfolding_all rfl) : PT X (.Compare a [op, op'] [b, c] pos) (tTest (tChain r r' ta tb tc)) := by
  intro pins s σ H Q I h
  refine isTrue_chain (thn (ha pins s σ H _ I h) fun v s1 ⟨x, H1, I1, r1, q1⟩ => test_link (thn (hb pins s1 σ H1 _ I1 q1) fun u s2 ⟨y, H2, I2, r2, q2⟩ =>
    thn (ho pins s2 σ H2 x y v u _ I2 r1 r2 q2) fun d s3 ⟨z, H3, I3, r3, k, e, q3⟩ => ?_)) hm
  subst e
  cases r3
  refine wpAny_truthy_bool ?_
  cases k with
  | false =>
    obtain ⟨k', e', q'⟩ := q3
    cases e'
    exact ite_ff ⟨H3, I3, q'⟩
  | true =>
    refine ite_tt (test_last (thn (hc pins s3 σ H3 _ I3 q3) fun w' s4 ⟨z', H4, I4, r4, q4⟩ => thn (ho' pins s4 σ H4 y z' u w' _ I4 r2 r4 q4) fun d' s5 ⟨z2, H5, I5, r5, k2, e2, q5⟩ => ?_))
    subst e2
    cases r5
    exact wpAny_truthy_bool ⟨H5, I5, q5⟩

theorem line63 : (sizeLine : Nat) < 2 ^ 63 := by rw [sizeLine_eq]; decide
theorem op_add_str : OpR X (binaryOp .Add) (fun x y H Q => ∃ i j, x = .str i ∧ y = .str j ∧ i.length + j.length ≤ sizeLine ∧ Q (.str (i ++ j)) H) := by
  intro pins s σ H x y v u Q I rx ry h
  obtain ⟨i, j, rfl, rfl, hz, q⟩ := h
  obtain ⟨t, rfl⟩ := rx
  obtain ⟨t', rfl⟩ := ry
  exact add_str (fun t' tk => ⟨.str (i ++ j), H, I.tok _, ⟨_, rfl⟩, q⟩) hz
theorem vals1 {x : V} {us : List Value} (r : Vals [x] us) : ∃ u, us = [u] ∧ RelV x u := by
  cases r with
  | cons r1 r2 => cases r2; exact ⟨_, rfl, r1⟩
theorem vals2 {x y : V} {us : List Value} (r : Vals [x, y] us) : ∃ u w', us = [u, w'] ∧ RelV x u ∧ RelV y w' := by
  cases r with
  | cons r1 r2 =>
    cases r2 with
    | cons r3 r4 => cases r4; exact ⟨_, _, rfl, r1, r3⟩
theorem call_max2 (hc : X.calm = true) : CallR X (.builtin "max") (fun xs H Q => ∃ i j, xs = [.int i, .int j] ∧ Q (.int (if j > i then j else i)) H) := by
  intro pins s σ H xs us Q I r h
  obtain ⟨i, j, rfl, q⟩ := h
  obtain ⟨u, w', rfl, ⟨t, rfl⟩, ⟨t', rfl⟩⟩ := vals2 r
  refine max_two_ints (I.ok.hd hc) fun h' tk k => ⟨_, H, I.kept k, ?_, q⟩
  by_cases hj : j > i
  · rw [if_pos hj, if_pos hj]; exact ⟨_, rfl⟩
  · rw [if_neg hj, if_neg hj]; exact ⟨_, rfl⟩
theorem call_min2 (hc : X.calm = true) : CallR X (.builtin "min") (fun xs H Q => ∃ i j, xs = [.int i, .int j] ∧ Q (.int (if j < i then j else i)) H) := by
  intro pins s σ H xs us Q I r h
  obtain ⟨i, j, rfl, q⟩ := h
  obtain ⟨u, w', rfl, ⟨t, rfl⟩, ⟨t', rfl⟩⟩ := vals2 r
  refine min_two_ints (I.ok.hd hc) fun h' tk k => ⟨_, H, I.kept k, ?_, q⟩
  by_cases hj : j < i
  · rw [if_pos hj, if_pos hj]; exact ⟨_, rfl⟩
  · rw [if_neg hj, if_neg hj]; exact ⟨_, rfl⟩
end
end L2

namespace L2
open PySem PySem.Spec PyProof.Rows

structure ObjM (h : Heap) (x dx C : Addr) (mA : Str → Option Value) : Prop where
  obj : h.get? x = some (PySem.W.instObj C dx)
  ns : h.Ns1 dx mA
  ne : dx ≠ x

theorem lookIn_ns {h : Heap} {dx : Addr} {mA : Str → Option Value} (n : h.Ns1 dx mA) : ∃ od, h.get? dx = some od ∧ ∀ name, PySem.W.lookIn name od = some (mA name) := by
  obtain ⟨o, es, ep, ho, hd, hk, _, hm⟩ := n
  refine ⟨o, ho, fun name => ?_⟩
  have e := hm name
  unfold nsFind findBy at e
  rw [← Array.find?_toList] at e
  unfold PySem.W.lookIn
  rw [hd]
  dsimp only
  split
  · rename_i y q
    rw [q] at e
    exact congrArg some e
  · rename_i q
    rw [q] at e
    have a : es.toList.any (·.refKey) = false := by
      rw [List.any_eq_false]
      intro y hy
      obtain ⟨z, t, hkey⟩ := hk y (Array.mem_toList_iff.mp hy)
      simp [DictEntry.refKey, hkey]
    have a' : ¬ es.toList.any (·.refKey) = true := by rw [a]; exact Bool.false_ne_true
    rw [if_neg a']
    exact congrArg some e

theorem ObjM.look {h : Heap} {x dx C : Addr} {mA : Str → Option Value} (I : ObjM h x dx C mA) : ∃ od, PySem.W.InstAt h x (PySem.W.instObj C dx) C (some od) ∧ ∀ name, PySem.W.lookIn name od = some (mA name) :=
  let ⟨od, ho, hl⟩ := lookIn_ns I.ns
  ⟨od, ⟨I.obj, rfl, rfl, ho⟩, hl⟩

section
variable {prog : Program} {w : World} {A : Around} {E : Value → Shared → Prop} {s : Shared} {K : PySem.W.Frag} {x dx C f : Addr} {mA : Str → Option Value} {name : Str} {v : Value}

end

def putF (f : Str) (v : V) : List (Str × V) → List (Str × V)
  | [] => [(f, v)]
  | (g, x) :: r => if g = f then (g, v) :: r else (g, x) :: putF f v r
section
variable {P : Program} {w : World} {H H' : Hp} {h h' : Heap} {a C dx : Addr} {fs fs' : List (Str × V)}
theorem ins_get (hok : HOk P w H h) (e : H a = some (.ins C dx fs)) : ∃ mA, ObjM h a dx C mA ∧ (∀ f, RelO (fs.lookup f) (mA f)) ∧ PySem.Within mA (fs.map (·.1)) ∧ fs.length ≤ 1000 ∧ H dx = some (.own a) := by
  obtain ⟨d, z, ne, ob, mA, n, r, q⟩ := (show ObjOk P w H h a (.ins C dx fs) from hok a _ e)
  exact ⟨mA, ⟨ob, n, ne⟩, r, q, z, d⟩
end

structure Cls (K : PySem.W.Frag) (C : Addr) : Prop where
  pg : PySem.W.plainGet K C Str.empty = true
  hd : PySem.W.hasDictIn K C = true
  po : PySem.W.plainOver K C = true
  sa : PySem.W.findIn K (.ref C) "__setattr__" = some (some (.builtin "object.__setattr__"))
theorem Cls.get {K : PySem.W.Frag} {C : Addr} (c : Cls K C) (f : Str) : PySem.W.plainGet K C f = true := c.pg
def NoAttr (K : PySem.W.Frag) (C : Addr) (f : Str) : Prop := PySem.W.findIn K (.ref C) f = some none
section
variable {X : Cx} {pins : List (Addr × Obj)} {σ : St} {H : Hp} {s : Shared} {a C dx : Addr} {fs : List (Str × V)} {f : Str} {v : V} {A : Around} {E : Value → Shared → Prop}

theorem Inv.made (I : Inv X pins σ H s) : Inv X pins σ (upd (upd H s.heap.objs.size (.own (s.heap.objs.size + 1))) (s.heap.objs.size + 1) (.ins C s.heap.objs.size []))
    { s with heap := (s.heap.push PySem.W.emptyDict).push (PySem.W.instObj C s.heap.objs.size) } := by
  have e1 : (s.heap.push PySem.W.emptyDict).get? s.heap.objs.size = some PySem.W.emptyDict := Heap.get?_push_size s.heap rfl
  have e2 : ((s.heap.push PySem.W.emptyDict).push (PySem.W.instObj C s.heap.objs.size)).get? (s.heap.objs.size + 1) = some (PySem.W.instObj C s.heap.objs.size) := by
    have := Heap.get?_push_size (s.heap.push PySem.W.emptyDict) (o := PySem.W.instObj C s.heap.objs.size) rfl
    rwa [Heap.size_push] at this
  have e3 : (s.heap.push PySem.W.emptyDict).Ns s.heap.objs.size (fun _ => none) := ⟨PySem.W.emptyDict, #[], _, e1, rfl, (fun e he => absurd he (by simp)), fun _ => rfl⟩
  have I1 := I.laid (a := s.heap.objs.size) (o := .own (s.heap.objs.size + 1)) (h' := s.heap.push PySem.W.emptyDict) (t' := s.toks) (fun b u q => Heap.get?_push_of_some _ q) (Nat.le_refl _) ⟨_, e1⟩
  refine I1.laid (a := s.heap.objs.size + 1) (o := .ins C s.heap.objs.size []) (t' := s.toks) (fun b u q => Heap.get?_push_of_some _ q) (Nat.le_of_eq (Heap.size_push _ _)) ?_
  have ne : s.heap.objs.size ≠ s.heap.objs.size + 1 := Nat.ne_of_lt (Nat.lt_succ_self _)
  refine ⟨by rw [upd_ne ne, upd_same], Nat.zero_le _, ne, e2, fun _ => none, (Heap.Ns1.of_empty e3).at fun o q => Heap.get?_push_of_some _ q, fun _ => True.intro, fun y hy => absurd rfl hy⟩

end

section
variable {X : Cx} {o e value : Expr} {f : Str} {pos pos' tpos : Pos} {ta tv : TE}
end

section
variable {X : Cx} {pins : List (Addr × Obj)} {σ : St} {H : Hp} {s : Shared} {A : Around} {E : Value → Shared → Prop} {Q : Value → Shared → Prop} {c : Value} {b : Bool}
inductive TyOf (K : PySem.W.Frag) (H : Hp) : V → Value → Prop where
  | non : TyOf K H .non (.type "NoneType")
  | bl (x : Bool) : TyOf K H (.bl x) (.type "bool")
  | int (i : Int) : TyOf K H (.int i) (.type "int")
  | str (x : Str) : TyOf K H (.str x) (.type "str")
  | flt (x : UInt64) : TyOf K H (.flt x) (.type "float")
  | lst {a : Addr} {xs : List V} (e : H a = some (.lst xs)) : TyOf K H (.ref a) (.type "list")
  | frz {a : Addr} {o : Obj} {xs : List V} (e : H a = some (.frz o (.lst xs))) : TyOf K H (.ref a) (.type "list")
  | tup {a : Addr} {xs : List V} (e : H a = some (.tup xs)) : TyOf K H (.ref a) (.type "tuple")
  | dK {a : Addr} {kvs : List (Key × V)} (e : H a = some (.dK kvs)) : TyOf K H (.ref a) (.type "dict")
  | dT {a : Addr} {kvs : List (List Key × V)} (e : H a = some (.dT kvs)) : TyOf K H (.ref a) (.type "dict")
  | ins {a C dx : Addr} {fs : List (Str × V)} (e : H a = some (.ins C dx fs)) (cl : Cls K C) (ha : PySem.W.findIn K (.ref C) "__class__" = some (some (.builtin "object.__class__")))
      (hn : PySem.W.specialIn K (.builtin "object.__class__") "__get__" = some (some (.builtin "getset_descriptor.__get__"))) (htk : PySem.W.takesIn K (.builtin "object.__class__") = some true)
      (hm : PySem.W.mroIn K C (.type "object") = some true) : TyOf K H (.ref a) (.ref C)
theorem isinst_ok {x : V} {u t : Value} (I : Inv X pins σ H s) (rx : RelV x u) (ty : TyOf X.K H x t) (e : PySem.W.kitOne X.K t c = some b) (h : ∀ tk, Q (.bool b) { s with toks := tk }) :
    wpAny (model X.prog X.w) A (call (.builtin "isinstance") [u, c]) Q E s := by
  cases ty with
  | non => cases (show u = Value.none from rx); exact PySem.W.kia_one PySem.W.kitx_none I.kIn True.intro e (fun z => nomatch z) h
  | bl y => cases (show u = Value.bool y from rx); exact PySem.W.kia_one PySem.W.kitx_bool I.kIn True.intro e (fun z => nomatch z) h
  | int i => obtain ⟨t, q⟩ := (show ∃ t, u = Value.int i t from rx); cases q; exact PySem.W.kia_one PySem.W.kitx_int I.kIn True.intro e (fun z => nomatch z) h
  | str y => obtain ⟨t, q⟩ := (show ∃ t, u = Value.str y t from rx); cases q; exact PySem.W.kia_one PySem.W.kitx_str I.kIn True.intro e (fun z => nomatch z) h
  | flt y => obtain ⟨t, q⟩ := (show ∃ t, u = Value.float y t from rx); cases q; exact PySem.W.kia_one PySem.W.kitx_float I.kIn True.intro e (fun z => nomatch z) h
  | @lst a xs ea =>
    cases (show u = Value.ref a from rx)
    obtain ⟨_, _, n, _, h1⟩ := (show ObjOk X.prog X.w H s.heap a (.lst xs) from I.hok a _ ea)
    exact PySem.W.kia_one PySem.W.kitx_list I.kIn ⟨_, h1, rfl⟩ e (fun z => nomatch z) h
  | @frz a ob xs ea =>
    cases (show u = Value.ref a from rx)
    obtain ⟨_, _, _, n, _, h1⟩ := (show ObjOk X.prog X.w H s.heap a (.frz ob (.lst xs)) from I.hok a _ ea)
    exact PySem.W.kia_one PySem.W.kitx_list I.kIn ⟨_, h1, rfl⟩ e (fun z => nomatch z) h
  | @tup a xs ea =>
    cases (show u = Value.ref a from rx)
    obtain ⟨_, _, _, p⟩ := (show ObjOk X.prog X.w H s.heap a (.tup xs) from I.hok a _ ea)
    obtain ⟨o, h1, h2, _⟩ := p
    exact PySem.W.kia_one PySem.W.kitx_tuple I.kIn ⟨o, h1, h2⟩ e (fun z => nomatch z) h
  | @dK a kvs ea =>
    cases (show u = Value.ref a from rx)
    obtain ⟨_, _, vs, _, p⟩ := (show ObjOk X.prog X.w H s.heap a (.dK kvs) from I.hok a _ ea)
    obtain ⟨o, es, ep, h1, h2, _⟩ := p
    exact PySem.W.kia_one PySem.W.kitx_dict I.kIn ⟨o, h1, h2.1⟩ e (fun z => nomatch z) h
  | @dT a kvs ea =>
    cases (show u = Value.ref a from rx)
    obtain ⟨_, _, xs, _, o, es, ep, h1, h2, _⟩ := (show ObjOk X.prog X.w H s.heap a (.dT kvs) from I.hok a _ ea)
    exact PySem.W.kia_one PySem.W.kitx_dict I.kIn ⟨o, h1, h2.1⟩ e (fun z => nomatch z) h
  | @ins a C dx fs ea cl ha hn htk hm =>
    cases (show u = Value.ref a from rx)
    obtain ⟨mA, O, _⟩ := ins_get I.hok ea
    obtain ⟨od, J, _⟩ := O.look
    exact PySem.W.kia_one (PySem.W.kitx_own (cl.get _) cl.hd ha hn htk hm) I.kIn J e (fun z => nomatch z) h
end
end L2

namespace L2
open PySem PySem.Spec PyProof.Rows

structure Room (k : Nat) (A : Around) : Prop where
  hd : A.handled = none
  dp : A.depth + 3 * k + 5 < recursionLimit
  un : A.units + 16 * k + 200 < cLine
theorem Room.mono {j k : Nat} {A : Around} (r : Room k A) (h : j ≤ k) : Room j A := ⟨r.hd, by have := r.dp; omega, by have := r.un; omega⟩
theorem Room.deeper {k : Nat} {A : Around} (r : Room (k + 1) A) (env : Env) : Room k (A.deeper env) :=
  ⟨r.hd, by have := r.dp; show A.depth + 1 + 3 * k + 5 < _; omega, by have := r.un; show A.units + 3 + 16 * k + 200 < _; omega⟩
theorem Room.in1 {k : Nat} {A : Around} (r : Room (k + 1) A) : Room k A.in1 :=
  ⟨r.hd, by have := r.dp; show A.depth + 3 * k + 5 < _; omega, by have := r.un; show A.units + 1 + 16 * k + 200 < _; omega⟩
theorem make_depth {A : Around} {C : Addr} {us : List Value} {kw : List (Str × Value)} : (A.under (.builtin "type.__call__" ⟨.ref C :: us, kw⟩)).depth = A.depth + 1 := by
  first | rfl | simp [Around.under, Code.weight, Code.isCreation, Code.isGuard, Code.isCaller, Code.frames, Code.isFrame, guardIds]
theorem make_units {A : Around} {C : Addr} {us : List Value} {kw : List (Str × Value)} : (A.under (.builtin "type.__call__" ⟨.ref C :: us, kw⟩)).units = A.units + 1 := by
  first | rfl | simp [Around.under, Code.cUnits, Code.frames, Code.isFrame]
theorem Room.make {k : Nat} {A : Around} (r : Room (k + 1) A) (C : Addr) (us : List Value) (kw : List (Str × Value)) : Room k (A.under (.builtin "type.__call__" ⟨.ref C :: us, kw⟩)) :=
  ⟨r.hd, by have := r.dp; rw [make_depth]; omega, by have := r.un; rw [make_units]; omega⟩
theorem Room.depth {k : Nat} {A : Around} (r : Room k A) : A.depth < recursionLimit := by have := r.dp; omega
theorem Room.units {k : Nat} {A : Around} (r : Room k A) : A.units + 64 < cLine := by have := r.un; omega
theorem Room.units0 {k : Nat} {A : Around} (r : Room k A) : A.units < cLine := by have := r.un; omega

def tNil : TA := fun _ H Q => Q [] H
def tCons (ta : TE) (tr : TA) : TA := fun σ H Q => ta σ H fun x H1 => tr σ H1 fun xs H2 => Q (x :: xs) H2
section
variable {X : Cx} {e : Expr} {es : List Expr} {te : TE} {t : TA} {pos : Pos}
theorem pa_nil : PA X [] tNil := fun _ _ _ _ H Q I h => Calls.spliced_nil ⟨[], H, I, .nil, h⟩
theorem pa_cons (ha : PE X e te) (hr : PA X es t) (hs : starEach (e :: es) X.env = (false, eval e X.env) :: starEach es X.env := by rfl) : PA X (e :: es) (tCons te t) := by
  intro pos pins s σ H Q I h
  rw [hs]
  show wpAny _ _ (spliced ((false, eval e X.env) :: backTo pos (starEach es X.env))) _ _ s
  refine Calls.spliced_cons (thn (ha pins s σ H _ I h) fun u s1 ⟨x, H1, I1, r1, q1⟩ => ?_)
  exact thn (hr pos pins s1 σ H1 _ I1 q1) fun us s2 ⟨xs, H2, I2, r2, q2⟩ => ⟨x :: xs, H2, I2, .cons r1 r2, q2⟩

end

abbrev Sp := List V → Hp → VK → XK → Prop
abbrev CXT := List Env → Hp → Shared → XK → Value → Shared → Prop

structure Env0 (P : Program) (w : World) (K : PySem.W.Frag) (mg : Str → Option Value) (base : Heap) (A : Around) (outer : List Env) (s : Shared) (H : Hp) : Prop where
  frames : A.frames = some outer
  mod : Mod K mg base
  bs : ∀ b o, base.get? b = some o → s.heap.get? b = some o ∧ H b = none
  bsz : base.objs.size ≤ s.heap.objs.size
  funs : s.heap.FunFrames base outer
  frf : ∀ b ∈ frs outer, H b = none
  hok : HOk P w H s.heap
  bare : AllBare s.gens
def CE (outer : List Env) (P : Program) (w : World) (H : Hp) (s : Shared) (Q : VK) (u : Value) (s' : Shared) : Prop :=
  ∃ v H', s'.os = s.os ∧ AllBare s'.gens ∧ Un (frs outer) [] H H' s.heap s'.heap ∧ HOk P w H' s'.heap ∧ RelV v u ∧ Q v H'
def CR (CX : CXT) (outer : List Env) (P : Program) (w : World) (H : Hp) (s : Shared) (Q : VK) (E : XK) (r : Result) (s' : Shared) : Prop :=
  match r with
  | .ok (.ret u) => CE outer P w H s Q u s'
  | .ok _ => False
  | .error e => CX outer H s E e s'
structure FnOk (P : Program) (w : World) (K : PySem.W.Frag) (mg : Str → Option Value) (base : Heap) (CX : CXT) (k : Nat) (f : Addr) (fd : FuncData) (ps : List Str) (sp : Sp) : Prop where
  len : ∀ vs H Q E, sp vs H Q E → vs.length = ps.length
  run : ∀ (A : Around) (outer : List Env) (s : Shared) (H : Hp) (args : Args) (us : List Value) (vs : List V) (Q : VK) (E : XK), Room k A → Env0 P w K mg base A outer s H → BindsTo s fd args (ps.zip us) → Vals vs us → sp vs H Q E →
    codeAny (model P w) A (.call (.ref f) args) (CR CX outer P w H s Q E) s
theorem FnOk.mono {P : Program} {w : World} {K : PySem.W.Frag} {mg : Str → Option Value} {base : Heap} {CX : CXT} {j k : Nat} {f : Addr} {fd : FuncData} {ps : List Str} {sp : Sp} (F : FnOk P w K mg base CX j f fd ps sp) (h : j ≤ k) :
    FnOk P w K mg base CX k f fd ps sp := ⟨F.len, fun A outer s H args us vs Q E hr => F.run A outer s H args us vs Q E (hr.mono h)⟩
theorem Env0.make {P : Program} {w : World} {K : PySem.W.Frag} {mg : Str → Option Value} {base : Heap} {A : Around} {outer : List Env} {s : Shared} {H : Hp} (e : Env0 P w K mg base A outer s H) (C : Addr) (us : List Value) (kw : List (Str × Value)) :
    Env0 P w K mg base (A.under (.builtin "type.__call__" ⟨.ref C :: us, kw⟩)) outer s H := ⟨by first | exact e.frames | (simpa [Around.under, Code.envs, Code.isFrame, pushEnvs] using e.frames), e.mod, e.bs, e.bsz, e.funs, e.frf, e.hok, e.bare⟩
theorem Env0.in1 {P : Program} {w : World} {K : PySem.W.Frag} {mg : Str → Option Value} {base : Heap} {A : Around} {outer : List Env} {s : Shared} {H : Hp} (e : Env0 P w K mg base A outer s H) :
    Env0 P w K mg base A.in1 outer s H := ⟨e.frames, e.mod, e.bs, e.bsz, e.funs, e.frf, e.hok, e.bare⟩

section
variable {X : Cx} {pins : List (Addr × Obj)} {σ : St} {H : Hp} {s s' : Shared}
theorem Inv.env0 (I : Inv X pins σ H s) : Env0 X.prog X.w X.K X.mg X.base X.A X.stack s H :=
  ⟨I.ok.frames, I.ok.mod, I.bs, Nat.le_trans I.ok.bsz I.sz, I.stack, I.stkFree, I.hok, I.bare⟩
theorem Inv.after {Q : VK} {u : Value} (I : Inv X pins σ H s) (h : CE X.stack X.prog X.w H s Q u s') : EP X pins σ Q u s' := by
  obtain ⟨v, H', os, bare, un, hok, r, q⟩ := h
  obtain ⟨hh, g, d, t, os'⟩ := s'
  obtain rfl : os' = s.os := os
  exact ⟨v, H', I.call (h' := hh) (g' := g) (d' := d) (t' := t) (ch := []) un hok bare (fun b z => absurd z (by simp)), r, q⟩
end

def tCall (sp : Sp) (dvs : List V) (E : St → XK) (t : TA) : TE := fun σ H Q => t σ H fun vs H1 => sp (vs ++ dvs) H1 Q (E σ)
def Binds (K : PySem.W.Frag) (fd : FuncData) (ps : List Str) (ds : List Value) : Prop :=
  ∀ (s : Shared) (us : List Value), K.In s.heap → (us ++ ds).length = ps.length → BindsTo s fd ⟨us, []⟩ (ps.zip (us ++ ds))
theorem Binds.all {K : PySem.W.Frag} {fd : FuncData} {ps : List Str} (h : ∀ us : List Value, us.length = ps.length → bindArgs fd ⟨us, []⟩ = pure (ps.zip us)) : Binds K fd ps [] := fun s us _ hl => by
  rw [List.append_nil] at hl ⊢
  exact .of_eq (h us hl)

def Passes (CX : CXT) (X : Cx) (E : St → XK) : Prop := ∀ (pins : List (Addr × Obj)) (σ : St) (H : Hp) (s : Shared) (e : Value) (s' : Shared), Inv X pins σ H s → CX X.stack H s (E σ) e s' → X.xe e s'

section
variable {X : Cx} {CX : CXT} {k : Nat} {f C : Addr} {fd : FuncData} {ps : List Str} {sp : Sp} {dvs : List V} {ds : List Value} {E : St → XK} {x m : Str} {p pos apos : Pos} {e o : Expr} {es : List Expr} {ta : TE} {t : TA}

theorem run_fn {pins : List (Addr × Obj)} {σ : St} {H : Hp} {s : Shared} {Q : VK} {us : List Value} {vs : List V} (F : FnOk X.prog X.w X.K X.mg X.base CX k f fd ps sp) (hr : Room k X.A) (hb : Binds X.K fd ps ds) (hd : Vals dvs ds) (hx : Passes CX X E)
    (I : Inv X pins σ H s) (r : Vals vs us) (h : sp (vs ++ dvs) H Q (E σ)) : wpAny (model X.prog X.w) X.A (call (.ref f) us) (EP X pins σ Q) X.xe s := by
  have r2 : Vals (vs ++ dvs) (us ++ ds) := r.append hd
  have hl : (us ++ ds).length = ps.length := by rw [← r2.length]; exact F.len _ _ _ _ h
  refine wpAny_call (codeAny_mono (F.run X.A X.stack s H ⟨us, []⟩ (us ++ ds) (vs ++ dvs) Q (E σ) hr I.env0 (hb s us I.kIn hl) r2 h) fun r s' hq => ?_)
  cases r with
  | error e => exact hx pins σ H s e s' I hq
  | ok fl =>
    cases fl with
    | ret u => exact I.after hq
    | next => exact False.elim hq
    | brk => exact False.elim hq
    | cont => exact False.elim hq

theorem pe_call (F : FnOk X.prog X.w X.K X.mg X.base CX k f fd ps sp) (hr : Room k X.A) (hg : Gl X x) (hm : X.mg x = some (.ref f)) (hk : PySem.W.keepIn X.K (.ref f) = true) (hb : Binds X.K fd ps ds) (hd : Vals dvs ds) (hx : Passes CX X E)
    (ha : PA X (e :: es) t) (hdb : (x == ("__debug__" : Str)) = false := by decide) (he : starEach (e :: es) X.env = (false, eval e X.env) :: starEach es X.env := by rfl) (hpl : (backTo pos (starEach es X.env)).any (·.1) = false := by rfl) :
    PE X (.Call (.Name x p) (e :: es) [] pos) (tCall sp dvs E t) := by
  intro pins s σ H Q I h
  refine wpAny_Call_Name_kw (ld_glob I hg hm ?_ hdb)
  refine PySem.W.callWith_K (h₀ := X.base) I.ok.mod.kin hk (thn (ha pos pins s σ H _ I h) fun us s1 ⟨vs, H1, I1, r, q⟩ => ⟨I1.kIn, ?_⟩) he hpl
  exact run_fn F hr hb hd hx I1 r q
structure Mk (K : PySem.W.Frag) (C f : Addr) : Prop where
  makes : PySem.W.makesIn K C = true
  init : PySem.W.findIn K (.ref C) "__init__" = some (some (.ref f))
  fn : PySem.W.isFn K (.ref f) = true
  kp : PySem.W.keepIn K (.ref C) = true

end

section
variable {X : Cx} {CX : CXT} {k : Nat} {f C : Addr} {fd : FuncData} {ps ks : List Str} {sp : Sp} {E : St → XK} {x m : Str} {p pos apos kpos : Pos} {e o : Expr} {es : List Expr} {kws : List Keyword} {te ta : TE} {t tk : TA} {nm : Option Str}
variable {g : List Value → List Value → List Value} {gV : List V → List V → List V}
end

structure FnScope (N P : List Str) (sc : Scope) : Prop where
  kind : sc.kind = .function
  co : sc.isCoroutine = false
  gen : sc.isGenerator = false
  nd : N.Nodup
  pre : N.take P.length = P
  par : ∀ x ∈ P, sc.names.lookup x = some .local ∨ sc.names.lookup x = some .cell
  nofree : ∀ y ∈ sc.names, y.2 ≠ .free

theorem bindL_out {kindOf : Str → Option NameKind} {x : Str} : ∀ {binds : List (Str × Value)} {m : Str → Option Value}, (∀ v, (x, v) ∉ binds) → bindL kindOf binds m x = m x
  | [], _, _ => rfl
  | (n, v) :: r, m, h => by
    unfold bindL
    rw [bindL_out fun w hw => h w (List.mem_cons_of_mem _ hw)]
    split
    · have : x ≠ n := by rintro rfl; exact h v List.mem_cons_self
      simp [this]
    · rfl
theorem bindC_out {kindOf : Str → Option NameKind} {x : Str} : ∀ {binds : List (Str × Value)} {m : Str → Option Value}, (∀ v, (x, v) ∉ binds) → bindC kindOf binds m x = m x
  | [], _, _ => rfl
  | (n, v) :: r, m, h => by
    unfold bindC
    rw [bindC_out fun w hw => h w (List.mem_cons_of_mem _ hw)]
    split
    · rfl
    · have : x ≠ n := by rintro rfl; exact h v List.mem_cons_self
      simp [this]
theorem bindL_get {kindOf : Str → Option NameKind} {x : Str} {v : Value} : ∀ {P : List Str} {vs : List Value} {i : Nat} {m : Str → Option Value}, P.Nodup → P[i]? = some x → vs[i]? = some v → kindOf x = some .local →
    bindL kindOf (P.zip vs) m x = some v
  | [], _, _, _, _, h, _, _ => by simp at h
  | _ :: _, [], _, _, _, _, h, _ => by simp at h
  | p :: P, w :: vs, 0, m, nd, h1, h2, hk => by
    simp at h1 h2; subst h1; subst h2
    show bindL kindOf ((p, w) :: P.zip vs) m p = _
    unfold bindL
    rw [bindL_out fun v hv => (List.nodup_cons.mp nd).1 (List.of_mem_zip hv).1, if_pos hk]
    simp
  | p :: P, w :: vs, i + 1, m, nd, h1, h2, hk => by
    show bindL kindOf ((p, w) :: P.zip vs) m x = _
    unfold bindL
    exact bindL_get (i := i) (List.nodup_cons.mp nd).2 (by simpa using h1) (by simpa using h2) hk
theorem bindC_get {kindOf : Str → Option NameKind} {x : Str} {v : Value} : ∀ {P : List Str} {vs : List Value} {i : Nat} {m : Str → Option Value}, P.Nodup → P[i]? = some x → vs[i]? = some v → kindOf x ≠ some .local →
    bindC kindOf (P.zip vs) m x = some v
  | [], _, _, _, _, h, _, _ => by simp at h
  | _ :: _, [], _, _, _, _, h, _ => by simp at h
  | p :: P, w :: vs, 0, m, nd, h1, h2, hk => by
    simp at h1 h2; subst h1; subst h2
    show bindC kindOf ((p, w) :: P.zip vs) m p = _
    unfold bindC
    rw [bindC_out fun v hv => (List.nodup_cons.mp nd).1 (List.of_mem_zip hv).1, if_neg hk]
    simp
  | p :: P, w :: vs, i + 1, m, nd, h1, h2, hk => by
    show bindC kindOf ((p, w) :: P.zip vs) m x = _
    unfold bindC
    exact bindC_get (i := i) (List.nodup_cons.mp nd).2 (by simpa using h1) (by simpa using h2) hk

def start (N : List Str) (vs : List V) : St := vs.map some ++ List.replicate (N.length - vs.length) none

def cxOf (CX : CXT) (P : Program) (w : World) (K : PySem.W.Frag) (mg : Str → Option Value) (base : Heap) (N : List Str) (qual : Str) (scope : Scope) (f : Addr) (cd : Value) (A : Around) (outer : List Env) (s : Shared) (H : Hp) (E : XK) : Cx where
  prog := P
  w := w
  K := K
  mg := mg
  base := base
  A := A.deeper (envOfC qual scope s.heap.objs.size f cd)
  N := N
  s₀ := s
  H₀ := H
  env := envOfC qual scope s.heap.objs.size f cd
  outer := outer
  stack := envOfC qual scope s.heap.objs.size f cd :: outer
  ex := []
  calm := true
  fn := fun _ => true
  pn := []
  xe := fun e s' => wpAny (model P w) (A.deeper (envOfC qual scope s.heap.objs.size f cd)) (leaving (envOfC qual scope s.heap.objs.size f cd) e) (fun _ s'' => CX outer H s E e s'') (fun e' s'' => CX outer H s E e' s'') s'

theorem cell_has {sc : Scope} {n : Nat} {x : Str} (h : sc.names.lookup x = some .cell) : ∃ c, (cellsFrom n sc.names []).lookup x = some c := by
  have q := PySem.W.cellsFrom_some sc.names n [] (.inl h)
  exact Option.isSome_iff_exists.mp q

theorem inv_start {CX : CXT} {P : Program} {w : World} {K : PySem.W.Frag} {mg : Str → Option Value} {base : Heap} {N ps : List Str} {qual : Str} {scope : Scope} {f : Addr} {cd : Value} {A : Around} {outer : List Env} {s s1 : Shared} {H : Hp} {E : XK} {us : List Value} {vs : List V}
    (S : FnScope N ps scope) (hd : A.handled = none) (e0 : Env0 P w K mg base A outer s H) (hl : vs.length = ps.length) (r : Vals vs us)
    (x : InCallC s s.heap.objs.size (bindL (envOfC qual scope s.heap.objs.size f cd).kindOf (ps.zip us) fun _ => none) (cellsFrom (s.heap.objs.size + 1) scope.names []) (bindC (envOfC qual scope s.heap.objs.size f cd).kindOf (ps.zip us) fun _ => none) s1) :
    Inv (cxOf CX P w K mg base N qual scope f cd A outer s H E) [] (start N vs) H s1 := by
  have hpl : ps.length ≤ N.length := by have := congrArg List.length S.pre; rw [List.length_take] at this; omega
  obtain ⟨h1, tk, rfl, hk⟩ := x.done
  have noA : ∀ b : Addr, b ∉ (cxOf CX P w K mg base N qual scope f cd A outer s H E).ex := fun b z => absurd (show b ∈ ([] : List Addr) from z) (by simp)
  refine ⟨⟨e0.mod, S.kind, rfl, rfl, Nat.le_refl _, fun y z c h1 h2 => ?_, fun y hy => ?_, fun y c _ h => ?_, fun _ => hd, Around.frames_deeper e0.frames, .inr ⟨rfl, rfl⟩, fun b z => absurd z (noA b), e0.bs, e0.bsz, fun b _ _ => noA b, fun b z => absurd z (noA b), e0.funs, e0.frf⟩,
    rfl, e0.bare, Un.kept hk, ⟨_, x.toInCall.ns, fun i y v h1 h2 h3 => ?_⟩, fun y c h => ⟨_, x.cell y c h⟩, e0.hok.fresh (Nat.le_refl _), fun y c h => ?_, fun p hp => absurd (show p ∈ ([] : List (Addr × Obj)) from hp) (by simp), e0.hok.kept hk, ?_⟩
  · exact name_of_addr x.apart (PySem.mem_of_lookup h1) (PySem.mem_of_lookup h2)
  · have hy : scope.names.lookup y = some .cell ∨ scope.names.lookup y = some .free := hy
    rcases hy with hy | hy
    · exact cell_has hy
    · exact absurd rfl (S.nofree _ (PySem.mem_of_lookup hy))
  · exact Nat.le_of_lt (x.above y c (PySem.mem_of_lookup h))
  · have hi : i < vs.length := by
      unfold start at h2
      by_cases hi : i < vs.length
      · exact hi
      · rw [List.getElem?_append_right (by simpa using hi)] at h2
        rw [List.getElem?_replicate] at h2
        split at h2 <;> cases h2
    have ha : vs[i]? = some v := by
      unfold start at h2
      rw [List.getElem?_append_left (by simpa using hi), List.getElem?_map] at h2
      cases e : vs[i]? with
      | none => rw [e] at h2; cases h2
      | some a => rw [e] at h2; cases h2; rfl
    obtain ⟨u, hu, rv⟩ := r.get ha
    have hp : ps[i]? = some y := by
      rw [← S.pre, List.getElem?_take_of_lt (by omega)]; exact h1
    have ndP : ps.Nodup := by rw [← S.pre]; exact S.nd.sublist (List.take_sublist _ _)
    refine ⟨u, rv, ?_⟩
    rcases S.par y (List.mem_of_getElem? hp) with k | k
    · exact .inl ⟨k, bindL_get ndP hp hu k⟩
    · obtain ⟨c, e⟩ := cell_has (n := s.heap.objs.size + 1) k
      refine .inr ⟨.inl k, c, e, ?_⟩
      have q := x.cell y c e
      rw [bindC_get ndP hp hu (by show scope.names.lookup y ≠ _; rw [k]; decide)] at q
      exact q
  · exact e0.hok.fresh (Nat.le_of_lt (x.above y c (PySem.mem_of_lookup h)))
  · unfold start
    show _ = N.length
    rw [List.length_append, List.length_map, List.length_replicate]
    omega

theorem fn_of {CX : CXT} {P : Program} {w : World} {K : PySem.W.Frag} {mg : Str → Option Value} {base : Heap} {k : Nat} {f : Addr} {name qual : Str} {params : Arguments} {body : List Stmt} {scope : Scope} {dV kV doc pm cdv ct oc : Value} {an od : Option Addr}
    {osl : Array (Option Value)} {N ps : List Str} {sp : Sp} (lk : K.lookup f = some ⟨oc, od, .func (PySem.W.fnOf name qual params body scope dV kV doc pm an cdv ct), osl⟩) (hcd : PySem.W.codeIn K cdv qual = true) (S : FnScope N ps scope)
    (len : ∀ vs H Q E, sp vs H Q E → vs.length = ps.length)
    (hbody : ∀ (A : Around) (outer : List Env) (s : Shared) (H : Hp) (vs : List V) (Q : VK) (E : XK), Room k (A.deeper (envOfC qual scope s.heap.objs.size f cdv)) → sp vs H Q E →
      ∃ t, PSs (cxOf CX P w K mg base N qual scope f cdv A outer s H E) body t ∧ t { nx := fun _ H' => Q .non H', rt := Q } (start N vs) H) :
    FnOk P w K mg base CX (k + 1) f (PySem.W.fnOf name qual params body scope dV kV doc pm an cdv ct) ps sp := by
  refine ⟨len, fun A outer s H args us vs Q E hr e0 hb r hsp => ?_⟩
  have hl := len _ _ _ _ hsp
  have KX : K.In s.heap := e0.mod.kin.keeps fun b o e => (e0.bs b o e).1
  have lim : s.heap.NoLimit := e0.mod.nolimit.keeps fun b o e => (e0.bs b o e).1
  have hkind : ∀ y ∈ ps.zip us, scope.names.lookup y.1 = some .local ∨ (scope.names.lookup y.1 = some .cell ∧ ((cellsFrom (s.heap.objs.size + 1) scope.names []).lookup y.1).isSome = true) := fun ⟨n, v⟩ hy => by
    rcases S.par n (List.of_mem_zip hy).1 with q | q
    · exact .inl q
    · exact .inr ⟨q, PySem.W.cellsFrom_some _ _ _ (.inl q)⟩
  refine codeAny_call_function hr.depth (KX _ _ lk) rfl S.co S.gen rfl (PySem.W.codeRec_of KX hcd) (hb _ _ _ _ ?_)
  refine wpAny_newFunctionEnv_cells S.kind hkind fun env he s1 x => ?_
  subst he
  refine ⟨lim.keeps x.toInCall.keep, codeAny_func ?_⟩
  obtain ⟨t, ht, hq⟩ := hbody A outer s H vs Q E (hr.deeper _) hsp
  have I : Inv (cxOf CX P w K mg base N qual scope f cdv A outer s H E) [] (start N vs) H s1 := inv_start S hr.hd e0 hl r x
  refine wpAny_mono (ht [] s1 (start N vs) H _ I hq) (fun fl s' hs => ?_) fun e s' hs => hs
  have fin : ∀ {σ' : St} {H' : Hp} {v : V} {u : Value}, Inv (cxOf CX P w K mg base N qual scope f cdv A outer s H E) [] σ' H' s' → RelV v u → Q v H' → CE outer P w H s Q u s' :=
    fun {σ' H' v u} J rv q => ⟨v, H', J.os, J.bare, J.base, J.hok, rv, q⟩
  cases fl with
  | ret u =>
    obtain ⟨v, σ', H', J, rv, q⟩ := hs
    exact fin J rv q
  | next =>
    obtain ⟨σ', H', J, q⟩ := hs
    exact fin (v := V.non) (u := Value.none) J rfl q
  | brk =>
    obtain ⟨_, _, _, q⟩ := hs
    exact False.elim q
  | cont =>
    obtain ⟨_, _, _, q⟩ := hs
    exact False.elim q
end L2

namespace L2
open PySem PySem.Spec PyProof.Rows
section
variable {X : Cx} {x : Str} {p pos : Pos} {e : Expr} {es : List Expr} {t : TA} {id T : String} {r : List V → Hp → VK → Prop}

def tCB (r : List V → Hp → VK → Prop) (t : TA) : TE := fun σ H Q => t σ H fun vs H1 => r vs H1 Q
theorem pe_callB (hc : CallR X (.builtin id) r) (hg : Gl X x) (hm : X.mg x = none) (hv : bootBuiltins x = some (.builtin id)) (ha : PA X (e :: es) t) (hn : x ≠ "__name__" := by decide) (hdb : (x == ("__debug__" : Str)) = false := by decide)
    (he : starEach (e :: es) X.env = (false, eval e X.env) :: starEach es X.env := by rfl) (hpl : (backTo pos (starEach es X.env)).any (·.1) = false := by rfl) : PE X (.Call (.Name x p) (e :: es) [] pos) (tCB r t) := by
  intro pins s σ H Q I h
  refine wpAny_Call_Name_kw (ld_blt I hg hm hv ?_ hn hdb)
  exact PyProof.Rows.callWith_builtin1 (thn (ha pos pins s σ H _ I h) fun us s1 ⟨vs, H1, I1, r1, q1⟩ => hc pins s1 σ H1 vs us Q I1 r1 q1) he hpl
theorem pe_callTy (hc : CallR X (.type T) r) (hg : Gl X x) (hm : X.mg x = none) (hv : bootBuiltins x = some (.type T)) (ha : PA X (e :: es) t) (hn : x ≠ "__name__" := by decide) (hdb : (x == ("__debug__" : Str)) = false := by decide)
    (he : starEach (e :: es) X.env = (false, eval e X.env) :: starEach es X.env := by rfl) (hpl : (backTo pos (starEach es X.env)).any (·.1) = false := by rfl) : PE X (.Call (.Name x p) (e :: es) [] pos) (tCB r t) := by
  intro pins s σ H Q I h
  refine wpAny_Call_Name_kw (ld_blt I hg hm hv ?_ hn hdb)
  exact PyProof.Rows.callWith_type1 (thn (ha pos pins s σ H _ I h) fun us s1 ⟨vs, H1, I1, r1, q1⟩ => hc pins s1 σ H1 vs us Q I1 r1 q1) he hpl
end
end L2

namespace HT
open PySem PyProof.Rows

section
open PySem.SeqAt
open PySem.AutoSeq1 (wpAny_loadPart')
open PySem.MeetsSeq PySem.MeetsSeq2 PySem.MeetsSeq3

end

section
variable {prog : Program} {w : World} {A : Around} {E : Value → Shared → Prop} {s : Shared}

theorem cat_tup {t b : Addr} {vs ws : List Value} {Q : Value → Shared → Prop} (ht : IsTup s.heap t vs.toArray) (hb : IsTup s.heap b ws.toArray) (hv : vs ≠ [])
    (h1 : ws = [] → Q (.ref t) s) (h2 : ws ≠ [] → Q (.ref s.heap.objs.size) { s with heap := s.heap.push { cls := .type "tuple", data := .seq (vs ++ ws).toArray } })
    (hsz : vs.length + ws.length ≤ sizeLine) : wpAny (model prog w) A (binaryOp .Add (.ref t) (.ref b)) Q E s := by
  obtain ⟨⟨cls, dd, data, sl⟩, ho, hc, n, hd⟩ := id ht
  obtain ⟨⟨cls2, dd2, data2, sl2⟩, ho2, hc2, n2, hd2⟩ := id hb
  simp only at hc hd hc2 hd2
  subst hc hd hc2 hd2
  have e : vs.toArray ++ ws.toArray = (vs ++ ws).toArray := by simp
  by_cases hw : ws = []
  · exact concat_meets ⟨_, ho, rfl⟩ ⟨_, ho2, rfl⟩ noFill_tuple_add seq_tuple_add PySem.F.slot_tuple_add PySem.F.entry_tuple_add (PySem.F.args_tuple_add_2 _ _)
      (tuple_addW1 t b vs.toArray ws.toArray n n2 dd dd2 sl sl2 (by simpa using hv) (by simp [hw])) ⟨ho, ho2, h1 hw⟩
  · refine concat_meets ⟨_, ho, rfl⟩ ⟨_, ho2, rfl⟩ noFill_tuple_add seq_tuple_add PySem.F.slot_tuple_add PySem.F.entry_tuple_add (PySem.F.args_tuple_add_2 _ _)
      (tuple_addW2 t b vs.toArray ws.toArray n n2 dd dd2 sl sl2 (by simpa using hv) (by simpa using hw) (by rw [List.size_toArray, List.size_toArray]; exact hsz)) ⟨ho, ho2, ?_⟩
    rw [e]
    exact h2 hw

def sIx (n d : Nat) : Option Int → Nat
  | none => d
  | some v => if v < 0 then (v + (n : Int)).toNat else min v.toNat n
theorem sIx_none (n d : Nat) : sIx n d none = d := rfl
theorem sIx_nat (n d k : Nat) : sIx n d (some (k : Int)) = min k n := by
  show (if (k : Int) < 0 then ((k : Int) + (n : Int)).toNat else min (k : Int).toNat n) = min k n
  rw [if_neg (by omega), Int.toNat_natCast]
theorem sIx_le (n d : Nat) (hd : d ≤ n) (o : Option Int) : sIx n d o ≤ n := by
  cases o with
  | none => exact hd
  | some v =>
    show (if v < 0 then (v + (n : Int)).toNat else min v.toNat n) ≤ n
    by_cases hv : v < 0
    · rw [if_pos hv]; omega
    · rw [if_neg hv]; exact Nat.min_le_right _ _
end
end HT

namespace L2
open PySem PySem.Spec PyProof.Rows

abbrev TO := St → Hp → (Option Int → Hp → Prop) → Prop
def PO (X : Cx) (e : Option Expr) (t : TO) : Prop :=
  ∀ (pins : List (Addr × Obj)) (s : Shared) (σ : St) (H : Hp) (Q : Option Int → Hp → Prop), Inv X pins σ H s → t σ H Q →
    wpAny (model X.prog X.w) X.A (evalPart e X.env) (fun u s' => ∃ o H', Inv X pins σ H' s' ∧ IsPart u o ∧ Q o H') X.xe s
def tNoPart : TO := fun _ H Q => Q none H
def tPart (t : TE) : TO := fun σ H Q => t σ H fun x H1 => ∃ i, x = .int i ∧ Q (some i) H1

section
variable {X : Cx} {e : Expr} {te : TE} {lo hi : Option Expr} {tl th : TO} {pos p2 : Pos}

theorem po_none : PO X none tNoPart := by
  intro pins s σ H Q I h
  rw [evalPart_none]
  exact wpAny_pure ⟨none, H, I, .none, h⟩
theorem po_some (h : PE X e te) : PO X (some e) (tPart te) := by
  intro pins s σ H Q I hw
  rw [evalPart_some]
  refine thn (h pins s σ H _ I hw) fun u s1 ⟨x, H1, I1, r1, q1⟩ => ?_
  obtain ⟨i, rfl, q⟩ := q1
  obtain ⟨t, rfl⟩ := r1
  exact ⟨some i, H1, I1, .int i t, q⟩

def SlR (X : Cx) (r : V → Option Int → Option Int → Hp → VK → Prop) : Prop :=
  ∀ (pins : List (Addr × Obj)) (s : Shared) (σ : St) (H : Hp) (x : V) (v vl vu : Value) (lo hi : Option Int) (sl : Addr) (Q : VK), Inv X pins σ H s → RelV x v → s.heap.IsSliceOf sl vl vu .none → IsPart vl lo → IsPart vu hi → r x lo hi H Q →
    ∃ T id, typeLookup (.type T) "__getitem__" = pure (some (.builtin id)) ∧ s.TypeIs v T ∧ wpAny (model X.prog X.w) X.A (getItem v (.ref sl)) (EP X pins σ Q) X.xe s
theorem SlR.or {r r' : V → Option Int → Option Int → Hp → VK → Prop} (h : SlR X r) (h' : SlR X r') : SlR X (fun x lo hi H Q => r x lo hi H Q ∨ r' x lo hi H Q) := by
  intro pins s σ H x v vl vu lo hi sl Q I rx hs pl pu q
  rcases q with q | q
  · exact h pins s σ H x v vl vu lo hi sl Q I rx hs pl pu q
  · exact h' pins s σ H x v vl vu lo hi sl Q I rx hs pl pu q
def tSl (r : V → Option Int → Option Int → Hp → VK → Prop) (te : TE) (tl th : TO) : TE := fun σ H Q => te σ H fun x H1 => tl σ H1 fun l H2 => th σ H2 fun u H3 => r x l u H3 Q
theorem pe_slice {r : V → Option Int → Option Int → Hp → VK → Prop} (hr : SlR X r) (he : PE X e te) (hl : PO X lo tl) (hu : PO X hi th) : PE X (.Subscript e (.Slice lo hi none p2) pos) (tSl r te tl th) := by
  intro pins s σ H Q I h
  refine Subscript_ (thn (he pins s σ H _ I h) fun v s1 ⟨x, H1, I1, r1, q1⟩ => ?_)
  refine wpAny_Slice (thn (hl pins s1 σ H1 _ I1 q1) fun vl s2 ⟨l, H2, I2, pl, q2⟩ => thn (hu pins s2 σ H2 _ I2 q2) fun vu s3 ⟨u, H3, I3, pu, q3⟩ => ?_)
  rw [evalPart_none]
  refine wpAny_pure ?_
  have I4 : Inv X pins σ H3 { s3 with heap := s3.heap.push { cls := .type "slice", data := .fields #[vl, vu, .none] } } := I3.kept (t' := s3.toks) fun b ob q => Heap.get?_push_of_some _ q
  obtain ⟨T, id, hT, ht, hg⟩ := hr pins { s3 with heap := s3.heap.push { cls := .type "slice", data := .fields #[vl, vu, .none] } } σ H3 x v vl vu l u s3.heap.objs.size Q I4 r1 (Heap.IsSliceOf.new ..) pl pu q3
  show wpAny (model X.prog X.w) X.A (subscriptTail e (.Slice lo hi none p2) v (.ref s3.heap.objs.size)) (EP X pins σ Q) X.xe { s3 with heap := s3.heap.push { cls := .type "slice", data := .fields #[vl, vu, .none] } }
  exact tail_any (ops := [.ref s3.heap.objs.size, v]) ht hT hg (by with_unfolding_all rfl)

def cutV (xs : List V) (lo hi : Option Int) : List V := (xs.drop (HT.sIx xs.length 0 lo)).take (HT.sIx xs.length xs.length hi - HT.sIx xs.length 0 lo)
theorem cutV_length (xs : List V) (lo hi : Option Int) : (cutV xs lo hi).length ≤ xs.length := by
  unfold cutV
  rw [List.length_take, List.length_drop]
  omega
def rCatT (K : PySem.W.Frag) : R2 := fun x y H Q => ∃ a b xs ys, x = .ref a ∧ y = .ref b ∧ SqT K H a xs ∧ SqT K H b ys ∧ xs ≠ [] ∧ xs.length + ys.length ≤ sizeLine ∧
  (ys = [] → Q (.ref a) H) ∧ (ys ≠ [] → ∀ p, H p = none → Q (.ref p) (upd H p (.tup (xs ++ ys))))
theorem Vals.nil_iff {xs : List V} {us : List Value} (r : Vals xs us) : us = [] ↔ xs = [] := by
  cases r with
  | nil => simp
  | cons _ _ => simp
theorem op_catT : OpR X (binaryOp .Add) (rCatT X.K) := by
  intro pins s σ H x y v u Q I rx ry h
  obtain ⟨a, b, xs, ys, rfl, rfl, ha, hb, hx, hz, q1, q2⟩ := h
  cases rx
  cases ry
  obtain ⟨its, r1, p1, _⟩ := I.tuple ha
  obtain ⟨its2, r2, p2, _⟩ := I.tuple hb
  refine HT.cat_tup p1 p2 (fun z => hx (r1.nil_iff.mp z)) (fun z => ⟨.ref a, H, I, rfl, q1 (r2.nil_iff.mp z)⟩) (fun z => ?_) (by rw [← r1.length, ← r2.length]; exact hz)
  refine ⟨.ref s.heap.objs.size, _, I.laid (t' := s.toks) (o := .tup (xs ++ ys)) (fun b ob q => Heap.get?_push_of_some _ q) (Nat.le_refl _) ?_, rfl, q2 (fun w => z (r2.nil_iff.mpr w)) _ (I.hok.fresh (Nat.le_refl _))⟩
  exact ⟨by rw [List.length_append]; exact hz, _, r1.append r2, IsTup.new _ _⟩
end
end L2

namespace L2
open PySem PySem.Spec PyProof.Rows

def ixN (n : Nat) (i : Int) : Option Nat := if 0 ≤ i then (if i < n then some i.toNat else none) else if -(n : Int) ≤ i then some (i + n).toNat else none
def atI {α : Type} (xs : List α) (i : Int) : Option α := (ixN xs.length i).bind fun j => xs[j]?
theorem ixN_seq {n : Nat} {i : Int} {j : Nat} (h : ixN n i = some j) : seqIndex? i n = some j ∧ j < n ∧ -(n : Int) ≤ i ∧ i < n := by
  unfold ixN at h
  by_cases h0 : 0 ≤ i
  · rw [if_pos h0] at h
    by_cases h1 : i < n
    · rw [if_pos h1] at h
      have e : i.toNat = j := Option.some.inj h
      exact ⟨by rw [seqIndex_of h0 h1, e], by omega, by omega, h1⟩
    · rw [if_neg h1] at h; cases h
  · rw [if_neg h0] at h
    by_cases h1 : -(n : Int) ≤ i
    · rw [if_pos h1] at h
      have e : (i + n).toNat = j := Option.some.inj h
      exact ⟨by rw [seqIndex_neg (by omega) h1, e], by omega, h1, by omega⟩
    · rw [if_neg h1] at h; cases h
theorem atI_get {α : Type} {xs : List α} {i : Int} {v : α} (h : atI xs i = some v) : ∃ j, seqIndex? i xs.length = some j ∧ xs[j]? = some v ∧ j < xs.length ∧ -(xs.length : Int) ≤ i ∧ i < xs.length := by
  unfold atI at h
  cases e : ixN xs.length i with
  | none => rw [e] at h; cases h
  | some j =>
    rw [e] at h
    obtain ⟨h1, h2, h3, h4⟩ := ixN_seq e
    exact ⟨j, h1, h, h2, h3, h4⟩
theorem atI_nat {α : Type} {xs : List α} {j : Nat} {v : α} (h : xs[j]? = some v) : atI xs (j : Int) = some v := by
  have hj : j < xs.length := (List.getElem?_eq_some_iff.mp h).1
  have e : ixN xs.length (j : Int) = some j := by
    unfold ixN
    rw [if_pos (by omega), if_pos (by omega)]; simp
  unfold atI; rw [e]; exact h
def PlainIx (b : Expr) : Prop := ∀ o i, subscripted b false o i = operate [o, i] (getItem o i)
def IxR (X : Cx) (r : R2) : Prop :=
  ∀ (value slice : Expr) (pins : List (Addr × Obj)) (s : Shared) (σ : St) (H : Hp) (x y : V) (v u : Value) (Q : VK), Inv X pins σ H s → RelV x v → RelV y u → r x y H Q →
    subscripted slice false v u = operate [v, u] (getItem v u) → wpAny (model X.prog X.w) X.A (subscriptTail value slice v u) (EP X pins σ Q) X.xe s
def MtR (X : Cx) (id : String) (r : V → List V → Hp → VK → Prop) : Prop :=
  ∀ (pins : List (Addr × Obj)) (s : Shared) (σ : St) (H : Hp) (x : V) (xs : List V) (v : Value) (us : List Value) (Q : VK), Inv X pins σ H s → RelV x v → Vals xs us → r x xs H Q →
    wpAny (model X.prog X.w) X.A (call (.builtin id) (v :: us)) (EP X pins σ Q) X.xe s
section
variable {X : Cx} {a b : Expr} {ta tb : TE} {pos : Pos}
theorem IxR.or {r r' : R2} (h : IxR X r) (h' : IxR X r') : IxR X (fun x y H Q => r x y H Q ∨ r' x y H Q) := by
  intro value slice pins s σ H x y v u Q I rx ry q hs
  rcases q with q | q
  · exact h value slice pins s σ H x y v u Q I rx ry q hs
  · exact h' value slice pins s σ H x y v u Q I rx ry q hs
theorem MtR.or {id : String} {r r' : V → List V → Hp → VK → Prop} (h : MtR X id r) (h' : MtR X id r') : MtR X id (fun x xs H Q => r x xs H Q ∨ r' x xs H Q) := by
  intro pins s σ H x xs v us Q I rx rs q
  rcases q with q | q
  · exact h pins s σ H x xs v us Q I rx rs q
  · exact h' pins s σ H x xs v us Q I rx rs q
theorem pe_ix {r : R2} (hr : IxR X r) (ha : PE X a ta) (hb : PE X b tb) (hs : PlainIx b) : PE X (.Subscript a b pos) (tOp r ta tb) := by
  intro pins s σ H Q I h
  exact Subscript_ (binT ha hb I h fun v u s2 x y H2 I2 rx ry q => hr a b pins s2 σ H2 x y v u Q I2 rx ry q (hs _ _))

def rIxL (K : PySem.W.Frag) : R2 := fun x y H Q => ∃ p xs i v, x = .ref p ∧ y = .int i ∧ SqL K H p xs ∧ atI xs i = some v ∧ Q v H
def rIxT (K : PySem.W.Frag) : R2 := fun x y H Q => ∃ p xs i v, x = .ref p ∧ y = .int i ∧ SqT K H p xs ∧ atI xs i = some v ∧ Q v H
def rIxS : R2 := fun x y H Q => ∃ z i c, x = .str z ∧ y = .int i ∧ z.length ≤ sizeLine ∧ atI z.cps.toList i = some c ∧ Q (.str ⟨#[c]⟩) H
theorem ix_list : IxR X (rIxL X.K) := by
  intro value slice pins s σ H x y v u Q I rx ry h hs
  obtain ⟨p, xs, i, z, rfl, rfl, hq, he, q⟩ := h
  cases rx
  obtain ⟨t, rfl⟩ := ry
  obtain ⟨its, r, pl, hz⟩ := I.list hq
  obtain ⟨j, h1, h2, h3, h4, h5⟩ := atI_get he
  obtain ⟨w, ew, rw'⟩ := r.get h2
  have hl := r.length
  have hn := line63
  have fin : EP X pins σ Q w s := ⟨z, H, I, rw', q⟩
  by_cases h0 : 0 ≤ i
  · have hj : i.toNat = j := by
      rw [seqIndex_of h0 h5] at h1
      exact Option.some.inj h1
    exact item_listR pl.isList h0 (by omega) (by rw [hj]; simpa using ew) fin hs
  · have hj : (i + (its.toArray.size : Int)).toNat = j := by
      rw [seqIndex_neg (by omega) h4] at h1
      rw [List.size_toArray, ← hl]
      exact Option.some.inj h1
    exact subscriptTail_builtinR (x := w) pl.isList.typeIs slot_list_getitem.lookup
      (wpAny_getItem_list_neg (Q := fun r s' => r = w ∧ EP X pins σ Q r s') pl.isList (by omega) (by rw [List.size_toArray] <;> omega) (by omega) (by rw [hj]; simpa using ew) ⟨rfl, fin⟩) hs
theorem ix_tup : IxR X (rIxT X.K) := by
  intro value slice pins s σ H x y v u Q I rx ry h hs
  obtain ⟨p, xs, i, z, rfl, rfl, hq, he, q⟩ := h
  cases rx
  obtain ⟨t, rfl⟩ := ry
  obtain ⟨its, r, pl, hz⟩ := I.tuple hq
  obtain ⟨j, h1, h2, h3, h4, h5⟩ := atI_get he
  obtain ⟨w, ew, rw'⟩ := r.get h2
  have hl := r.length
  have hn := line63
  have fin : EP X pins σ Q w s := ⟨z, H, I, rw', q⟩
  exact subscriptTail_builtinR (x := w) pl.typeIs slot_tuple_getitem.lookup
    (getItem_tuple (j := j) (Q := fun r s' => r = w ∧ EP X pins σ Q r s') pl (by omega) (by omega) (by rw [List.size_toArray, ← hl]; exact h1) (by simpa using ew) ⟨rfl, fin⟩) hs
theorem ix_str : IxR X rIxS := by
  intro value slice pins s σ H x y v u Q I rx ry h hs
  obtain ⟨z, i, c, rfl, rfl, hz, he, q⟩ := h
  obtain ⟨t, rfl⟩ := rx
  obtain ⟨t', rfl⟩ := ry
  obtain ⟨j, h1, h2, h3, h4, h5⟩ := atI_get he
  have hl : z.cps.toList.length = z.length := by simp [Str.length]
  rw [hl] at h1 h4 h5
  have hn := line63
  exact tail_any (typeIs_str s z t) slot_str_getitem.lookup (getItem_str (c := c) (by
    have e1 : decide (i < -(2 ^ 63 : Int)) = false := decide_eq_false (by omega)
    have e2 : decide (i ≥ 2 ^ 63) = false := decide_eq_false (by omega)
    rw [e1, e2, Bool.or_false]) (by rw [h1]; simpa using h2) ⟨.str ⟨#[c]⟩, H, I.tok _, ⟨_, rfl⟩, q⟩) hs
theorem Inv.lst {pins : List (Addr × Obj)} {σ : St} {H : Hp} {s : Shared} {p : Addr} {xs : List V} (I : Inv X pins σ H s) (h : H p = some (.lst xs)) :
    ∃ (its : List Value) (n : Nat), Vals xs its ∧ s.heap.get? p = some { cls := .type "list", data := .seq its.toArray n } ∧ xs.length ≤ sizeLine := by
  obtain ⟨z, its, n, r, e⟩ := I.hok p _ h
  exact ⟨its, n, r, e, z⟩
theorem slice_bounds (lo hi : Option Int) (n : Nat) : (sliceBounds lo hi none n).1 = ((HT.sIx n 0 lo : Nat) : Int) ∧ (sliceBounds lo hi none n).2.1 = ((HT.sIx n n hi : Nat) : Int) ∧ (sliceBounds lo hi none n).2.2 = 1 := by
  refine ⟨?_, ?_, rfl⟩
  · cases lo with
    | none => simp [sliceBounds, HT.sIx]
    | some i =>
      simp only [sliceBounds, HT.sIx, Option.getD_none, show (1 : Int) > 0 by decide, if_true]
      by_cases h : i < 0
      · simp only [h, if_true] <;> omega
      · simp only [h, if_false] <;> omega
  · cases hi with
    | none => simp [sliceBounds, HT.sIx]
    | some i =>
      simp only [sliceBounds, HT.sIx, Option.getD_none, show (1 : Int) > 0 by decide, if_true]
      by_cases h : i < 0
      · simp only [h, if_true] <;> omega
      · simp only [h, if_false] <;> omega
theorem slicePick_cut (its : List Value) (lo hi : Option Int) : slicePick its.toArray lo hi none = ((its.drop (HT.sIx its.length 0 lo)).take (HT.sIx its.length its.length hi - HT.sIx its.length 0 lo)).toArray := by
  obtain ⟨h1, h2, h3⟩ := slice_bounds lo hi its.toArray.size
  unfold slicePick
  rw [h1, h2, h3]
  simp only [sliceRange_one, pick_run, List.size_toArray] <;> rfl
def rSlL (K : PySem.W.Frag) : V → Option Int → Option Int → Hp → VK → Prop := fun x lo hi H Q => ∃ a xs, x = .ref a ∧ SqL K H a xs ∧ ∀ p, H p = none → Q (.ref p) (upd H p (.lst (cutV xs lo hi)))
theorem sl_list : SlR X (rSlL X.K) := by
  intro pins s σ H x v vl vu lo hi sl Q I rx hs pl pu h
  obtain ⟨a, xs, rfl, hx, q⟩ := h
  cases rx
  obtain ⟨its, r, ht, hz⟩ := I.list hx
  have hlen := r.length
  refine ⟨"list", _, slot_list_getitem.lookup, ht.isList.typeIs, ?_⟩
  refine wpAny_getItem_list_slice ht.isList hs pl pu .none (by simp) ?_ (by rw [List.size_toArray] <;> omega)
  rw [slicePick_cut, ← hlen]
  refine ⟨.ref s.heap.objs.size, _, I.laid (t' := s.toks) (o := .lst (cutV xs lo hi)) (fun b ob q => Heap.get?_push_of_some _ q) (Nat.le_refl _) ?_, rfl, q _ (I.hok.fresh (Nat.le_refl _))⟩
  exact ⟨Nat.le_trans (cutV_length xs lo hi) hz, _, 0, (r.drop (HT.sIx xs.length 0 lo)).take (HT.sIx xs.length xs.length hi - HT.sIx xs.length 0 lo), Heap.get?_push_size _ rfl⟩

def flatV : V → Bool
  | .non => true
  | .bl _ => true
  | .int _ => true
  | .str _ => true
  | _ => false
def eqV : V → V → Bool
  | .non, .non => true
  | .bl a, .bl b => a == b
  | .bl a, .int b => (if a then 1 else 0) == b
  | .int a, .bl b => a == (if b then 1 else 0)
  | .int a, .int b => a == b
  | .str a, .str b => a == b
  | _, _ => false
theorem eqAt_V {A : Around} {s : Shared} {y x : V} {u v : Value} (ry : RelV y u) (rx : RelV x v) (fy : flatV y = true) (fx : flatV x = true) : SeqAt.EqAt A s u v (eqV y x) := by
  cases y with
  | non =>
    cases ry
    cases x with
    | non => cases rx; exact SeqAt.EqAt.same _
    | bl b => cases rx; exact SeqAt.EqAt.none_bool b
    | int b => obtain ⟨t, rfl⟩ := rx; exact SeqAt.EqAt.none_int b t
    | str b => obtain ⟨t, rfl⟩ := rx; exact SeqAt.EqAt.none_str b t
    | _ => exact absurd (show false = true from fx) Bool.false_ne_true
  | bl a =>
    cases ry
    cases x with
    | non => cases rx; exact SeqAt.EqAt.bool_none a
    | bl b => cases rx; exact SeqAt.EqAt.bool_bool a b
    | int b => obtain ⟨t, rfl⟩ := rx; exact SeqAt.EqAt.bool_int a b t
    | str b => obtain ⟨t, rfl⟩ := rx; exact SeqAt.EqAt.bool_str a b t
    | _ => exact absurd (show false = true from fx) Bool.false_ne_true
  | int a =>
    obtain ⟨t', rfl⟩ := ry
    cases x with
    | non => cases rx; exact SeqAt.EqAt.int_none a t'
    | bl b => cases rx; exact SeqAt.EqAt.int_bool a t' b
    | int b => obtain ⟨t, rfl⟩ := rx; exact SeqAt.EqAt.int_int a t' b t
    | str b => obtain ⟨t, rfl⟩ := rx; exact SeqAt.EqAt.int_str a t' b t
    | _ => exact absurd (show false = true from fx) Bool.false_ne_true
  | str a =>
    obtain ⟨t', rfl⟩ := ry
    cases x with
    | non => cases rx; exact SeqAt.EqAt.str_none a t'
    | bl b => cases rx; exact SeqAt.EqAt.str_bool a t' b
    | int b => obtain ⟨t, rfl⟩ := rx; exact SeqAt.EqAt.str_int a t' b t
    | str b => obtain ⟨t, rfl⟩ := rx; exact SeqAt.EqAt.str_str a t' b t
    | _ => exact absurd (show false = true from fx) Bool.false_ne_true
  | _ => exact absurd (show false = true from fy) Bool.false_ne_true
def eqU (x : V) (u : Value) : Bool := match u with
  | .none => eqV .non x
  | .bool b => eqV (.bl b) x
  | .int i _ => eqV (.int i) x
  | .str z _ => eqV (.str z) x
  | _ => false
theorem eqU_of {x y : V} {u : Value} (r : RelV y u) (f : flatV y = true) : eqU x u = eqV y x := by
  cases y with
  | non => cases r; rfl
  | bl b => cases r; rfl
  | int i => obtain ⟨t, rfl⟩ := r; rfl
  | str z => obtain ⟨t, rfl⟩ := r; rfl
  | _ => exact absurd (show false = true from f) Bool.false_ne_true
theorem any_eqU {x : V} : ∀ {xs : List V} {us : List Value}, Vals xs us → xs.all flatV = true → us.any (eqU x) = xs.any fun y => eqV y x
  | _, _, .nil, _ => rfl
  | y :: xs, u :: us, .cons r t, f => by
    rw [List.all_cons, Bool.and_eq_true] at f
    rw [List.any_cons, List.any_cons, eqU_of r f.1, any_eqU t f.2]
theorem mem_eqAt {A : Around} {s : Shared} {x : V} {v : Value} (rx : RelV x v) (fx : flatV x = true) : ∀ {xs : List V} {us : List Value}, Vals xs us → xs.all flatV = true → ∀ u ∈ us, SeqAt.EqAt A s u v (eqU x u)
  | _, _, .nil, _ => fun u hu => by cases hu
  | y :: xs, u :: us, .cons r t, f => fun u' hu => by
    rw [List.all_cons, Bool.and_eq_true] at f
    rcases List.mem_cons.mp hu with rfl | hu
    · rw [eqU_of r f.1]; exact eqAt_V r rx f.1 fx
    · exact mem_eqAt rx fx t f.2 u' hu
def inV (x : V) (xs : List V) : Bool := xs.any fun y => eqV y x
def rIn (K : PySem.W.Frag) (neg : Bool) : R2 := fun x y H Q => ∃ p xs, y = .ref p ∧ (SqL K H p xs ∨ SqT K H p xs) ∧ flatV x = true ∧ xs.all flatV = true ∧ Q (.bl (if neg then !inV x xs else inV x xs)) H
theorem op_in_seq : OpR X (compareOp .In) (rIn X.K false) := by
  intro pins s σ H x y v u Q I rx ry h
  obtain ⟨p, xs, rfl, hq, fx, fs, q⟩ := h
  cases ry
  rcases hq with hq | hq
  · obtain ⟨its, r, pl, hz⟩ := I.list hq
    refine SeqAt.in_listAt (eqU x) pl.isList (fun w hw => mem_eqAt rx fx r fs w (by simpa using hw)) ⟨.bl _, H, I, rfl, ?_⟩
    rw [show its.toArray.any (eqU x) = its.any (eqU x) by simp, any_eqU r fs]
    exact q
  · obtain ⟨its, r, pl, hz⟩ := I.tuple hq
    refine SeqAt.in_tupleAt (eqU x) pl (fun w hw => mem_eqAt rx fx r fs w (by simpa using hw)) ⟨.bl _, H, I, rfl, ?_⟩
    rw [show its.toArray.any (eqU x) = its.any (eqU x) by simp, any_eqU r fs]
    exact q
theorem call_len_seq : CallR X (.builtin "len") (fun xs H Q => ∃ p ys, xs = [.ref p] ∧ (SqL X.K H p ys ∨ SqT X.K H p ys) ∧ Q (.int ys.length) H) := by
  intro pins s σ H xs us Q I r h
  obtain ⟨p, ys, rfl, hq, q⟩ := h
  obtain ⟨u, rfl, rx⟩ := vals1 r
  cases rx
  have hn := line63
  rcases hq with hq | hq
  · obtain ⟨its, r', pl, hz⟩ := I.list hq
    have hlen := r'.length
    exact Calls.call_len_list pl.isList (by simp only [List.size_toArray] <;> omega) ⟨.int ys.length, H, I.tok _, ⟨s.toks + 1, by rw [List.size_toArray, hlen]⟩, q⟩
  · obtain ⟨its, r', pl, hz⟩ := I.tuple hq
    have hlen := r'.length
    exact len_tuple pl (by simp only [List.size_toArray] <;> omega) ⟨.int ys.length, H, I.tok _, ⟨s.toks + 1, by rw [List.size_toArray, hlen]⟩, q⟩
theorem call_len_str : CallR X (.builtin "len") (fun xs H Q => ∃ z, xs = [.str z] ∧ z.length ≤ sizeLine ∧ Q (.int z.length) H) := by
  intro pins s σ H xs us Q I r h
  obtain ⟨z, rfl, hz, q⟩ := h
  obtain ⟨u, rfl, t, rfl⟩ := vals1 r
  have hn := line63
  exact len_str (by omega) ⟨.int z.length, H, I.tok _, ⟨_, rfl⟩, q⟩
theorem CallR.or {f : Value} {r r' : List V → Hp → VK → Prop} (h : CallR X f r) (h' : CallR X f r') : CallR X f (fun xs H Q => r xs H Q ∨ r' xs H Q) := by
  intro pins s σ H xs us Q I rs q
  rcases q with q | q
  · exact h pins s σ H xs us Q I rs q
  · exact h' pins s σ H xs us Q I rs q
theorem call_list_of : CallR X (.type "list") (fun xs H Q => ∃ p ys, xs = [.ref p] ∧ (SqL X.K H p ys ∨ SqT X.K H p ys) ∧ ∀ l, H l = none → Q (.ref l) (upd H l (.lst ys))) := by
  intro pins s σ H xs us Q I r h
  obtain ⟨p, ys, rfl, hq, q⟩ := h
  obtain ⟨u, rfl, rx⟩ := vals1 r
  cases rx
  have fin : ∀ (its : List Value), Vals ys its → ys.length ≤ sizeLine → ∀ (h' : Heap) (c' : Nat), (∀ b o', s.heap.get? b = some o' → h'.get? b = some o') →
      h'.get? s.heap.objs.size = some { cls := .type "list", dict := none, data := .seq its.toArray c', slots := #[] } → EP X pins σ Q (.ref s.heap.objs.size) { s with heap := h' } := fun its r' hz h' c' kp e =>
    ⟨.ref s.heap.objs.size, _, I.laid (t' := s.toks) kp (Nat.le_refl _) (show ObjOk X.prog X.w _ h' _ (.lst ys) from ⟨hz, its, c', r', e⟩), rfl, q _ (I.hok.fresh (Nat.le_refl _))⟩
  rcases hq with hq | hq
  · obtain ⟨its, r', pl, hz⟩ := I.list hq
    have hlen := r'.length
    obtain ⟨o, ho, hc, n, hd⟩ := pl.isList
    exact call_list_seq p (.inl rfl) ho hc hd (fun h' c' kp e => fin its r' hz h' c' kp e) (by simp only [List.size_toArray] <;> omega)
  · obtain ⟨its, r', pl, hz⟩ := I.tuple hq
    have hlen := r'.length
    obtain ⟨o, ho, hc, n, hd⟩ := pl
    exact call_list_seq p (.inr rfl) ho hc hd (fun h' c' kp e => fin its r' hz h' c' kp e) (by simp only [List.size_toArray] <;> omega)
def tyV (K : PySem.W.Frag) (T : String) (x : V) (H : Hp) : Prop := match x with
  | .str _ => T = "str"
  | .int _ => T = "int"
  | .ref p => (T = "list" ∧ ∃ xs, SqL K H p xs) ∨ (T = "tuple" ∧ ∃ o, K.lookup p = some o ∧ o.cls = .type "tuple" ∧ o.dict = none) ∨
      (T = "dict" ∧ ((∃ kvs, H p = some (.dK kvs)) ∨ ∃ kvs, H p = some (.dT kvs))) ∨ (T = "set" ∧ ∃ S n, H p = some (.set S n))
  | _ => False
theorem tyV_is {pins : List (Addr × Obj)} {σ : St} {H : Hp} {s : Shared} {T : String} {x : V} {v : Value} (I : Inv X pins σ H s) (r : RelV x v) (ty : tyV X.K T x H) :
    s.TypeIs v T ∧ ∀ a, v = .ref a → ∃ ob, s.heap.get? a = some ob ∧ ob.dict = none := by
  cases x with
  | str z =>
    obtain ⟨t, rfl⟩ := r
    cases (show T = "str" from ty)
    exact ⟨typeIs_str s z t, fun _ e => nomatch e⟩
  | int i =>
    obtain ⟨t, rfl⟩ := r
    cases (show T = "int" from ty)
    exact ⟨typeIs_int s i t, fun _ e => nomatch e⟩
  | ref p =>
    cases r
    rcases ty with ⟨rfl, xs, hq⟩ | ⟨rfl, o, hk, hc, hd⟩ | ⟨rfl, hk⟩ | ⟨rfl, S, n, hk⟩
    · obtain ⟨its, _, pl, _⟩ := I.list hq
      refine ⟨pl.isList.typeIs, fun a e => ?_⟩
      cases e
      obtain ⟨o, n, e, c, hd, _⟩ := pl
      exact ⟨o, e, hd⟩
    · refine ⟨⟨o, I.kIn p o hk, hc⟩, fun a e => ?_⟩
      cases e
      exact ⟨o, I.kIn _ o hk, hd⟩
    · have z : ∃ o, s.heap.get? p = some o ∧ o.ExactDict := by
        rcases hk with ⟨kvs, hk⟩ | ⟨kvs, hk⟩
        · obtain ⟨_, _, _, _, o, _, _, e, ex, _⟩ := I.hok p _ hk
          exact ⟨o, e, ex⟩
        · obtain ⟨_, _, _, _, o, _, _, e, ex, _⟩ := I.hok p _ hk
          exact ⟨o, e, ex⟩
      obtain ⟨o, e, ex⟩ := z
      refine ⟨⟨o, e, ex.1⟩, fun a e2 => ?_⟩
      cases e2
      exact ⟨o, e, ex.2.1⟩
    · obtain ⟨o, _, _, _, e, ex, _⟩ := I.hok p _ hk
      refine ⟨⟨o, e, ex.1⟩, fun a e2 => ?_⟩
      cases e2
      exact ⟨o, e, ex.2.1⟩
  | _ => exact False.elim ty
def tBM0 (K : PySem.W.Frag) (T : String) (r : V → List V → Hp → VK → Prop) (to : TE) : TE := fun σ H Q => to σ H fun x H1 => tyV K T x H1 ∧ r x [] H1 Q
def tBM (K : PySem.W.Frag) (T : String) (r : V → List V → Hp → VK → Prop) (to : TE) (t : TA) : TE := fun σ H Q => to σ H fun x H1 => tyV K T x H1 ∧ t σ H1 fun xs H2 => r x xs H2 Q
variable {o e : Expr} {es : List Expr} {to : TE} {t : TA} {name : Str} {apos cpos : Pos} {T id : String} {r : V → List V → Hp → VK → Prop}
theorem pe_bm (pa : PlainAttrs T) (slot : Slot T name id) (hty : typeOf (.builtin id) = pure (.type "method_descriptor")) (hm : MtR X id r) (ho : PE X o to) (ha : PA X (e :: es) t)
    (hbase : attributeBase o name X.env (eval o X.env) = eval o X.env := by rfl)
    (hfew : ((backTo cpos (starEach (e :: es) X.env)).all (fun x => !x.1) && (backToKw cpos (keywordEach [] X.env)).all (fun x => x.1.isSome)
      && decide ((e :: es).length + ([] : List Keyword).length + (if ([] : List Keyword).isEmpty then 0 else 1) < 30)) = true := by rfl)
    (hline : (apos.endLine == cpos.line) = true := by rfl) (hs : starEach (e :: es) X.env = (false, eval e X.env) :: starEach es X.env := by rfl) (hplain : (backTo cpos (starEach es X.env)).any (·.1) = false := by rfl) :
    PE X (.Call (.Attribute o name apos) (e :: es) [] cpos) (tBM X.K T r to t) := by
  intro pins s σ H Q I h
  refine wpAny_Call_method_late hbase hfew hline rfl (thn (ho pins s σ H _ I h) fun v s1 ⟨x, H1, I1, r1, ty, q1⟩ => ?_)
  obtain ⟨h1, h2⟩ := tyV_is I1 r1 ty
  refine ⟨T, id, pa, slot, hty, h1, h2, ?_⟩
  have hA := ha cpos pins s1 σ H1 _ I1 q1
  rw [hs] at hA ⊢
  refine Calls.callWith_builtin (by show (false || (backTo cpos (starEach es X.env)).any (·.1)) = false; rw [hplain] <;> rfl) (Calls.evalArgs_plain ?_)
  exact thn hA fun us s2 ⟨vs, H2, I2, r2, q2⟩ => hm pins s2 σ H2 x vs v us Q I2 r1 r2 q2
end
end L2

namespace L2
open PySem PySem.Spec PyProof.Rows

def MtM (X : Cx) (id : String) (r : V → List V → Hp → VK → Prop) : Prop :=
  ∀ (pins : List (Addr × Obj)) (s : Shared) (σ : St) (H : Hp) (x : V) (xs : List V) (v : Value) (us : List Value) (Q : VK), Inv X pins σ H s → RelV x v → Vals xs us → r x xs H Q →
    wpAny (model X.prog X.w) X.A (call (.builtin id) (v :: us)) (EP X pins σ Q) X.xe s

theorem Vals.one : ∀ {x : V} {us : List Value}, Vals [x] us → ∃ u, us = [u] ∧ RelV x u
  | _, _, .cons r .nil => ⟨_, rfl, r⟩
theorem Vals.two : ∀ {x y : V} {us : List Value}, Vals [x, y] us → ∃ u v, us = [u, v] ∧ RelV x u ∧ RelV y v
  | _, _, _, .cons r (.cons q .nil) => ⟨_, _, rfl, r, q⟩
theorem Vals.zero : ∀ {us : List Value}, Vals [] us → us = []
  | _, .nil => rfl
theorem Vals.reverse {xs : List V} {us : List Value} (h : Vals xs us) : Vals xs.reverse us.reverse := by
  induction h with
  | nil => exact .nil
  | cons r t ih => rw [List.reverse_cons, List.reverse_cons]; exact Vals.append ih (.cons r .nil)
theorem Vals.rep {xs : List V} {us : List Value} (h : Vals xs us) : ∀ k : Nat, Vals (List.replicate k xs).flatten (List.replicate k us).flatten
  | 0 => .nil
  | k + 1 => by
    rw [List.replicate_succ, List.replicate_succ, List.flatten_cons, List.flatten_cons]
    exact Vals.append h (Vals.rep h k)
theorem foldl_rep (its : List Value) : ∀ (k : Nat) (acc : List Value),
    List.foldl (fun x1 x2 => x1 ++ x2) acc.toArray (List.replicate k its.toArray) = (acc ++ (List.replicate k its).flatten).toArray
  | 0, acc => by simp
  | k + 1, acc => by
    have e : acc.toArray ++ its.toArray = (acc ++ its).toArray := by simp
    have e2 : (acc ++ its) ++ (List.replicate k its).flatten = acc ++ (List.replicate (k + 1) its).flatten := by
      rw [List.replicate_succ, List.flatten_cons, List.append_assoc]
    rw [← e2, ← foldl_rep its k (acc ++ its), ← e, List.replicate_succ, List.foldl_cons]

section
variable {X : Cx} {pins : List (Addr × Obj)} {σ : St} {H : Hp} {s : Shared} {l b : Addr} {xs ys zs : List V}

theorem Inv.lset {its its' : List Value} {n : Nat} {f : Array Value → Array Value} {t' : Nat} (I : Inv X pins σ H s) (hH : H l = some (.lst xs))
    (e : s.heap.get? l = some { cls := .type "list", data := .seq its.toArray n }) (hf : f its.toArray = its'.toArray) (hv : Vals ys its') (hz : ys.length ≤ sizeLine) :
    Inv X pins σ (upd H l (.lst ys)) { s with heap := s.heap.update l (Obj.mapSeq f), toks := t' } := by
  have q := PySem.IsL.update e f
  rw [hf] at q
  refine I.write (x := l) (e := l) (by rw [hH]; exact trivial) (.inl rfl) (fun b' u hb hu => (Heap.get?_update_other s.heap (Obj.mapSeq f) (Ne.symm hb)).trans hu) ⟨_, q⟩ ?_
  exact ⟨hz, its', _, hv, q⟩
theorem Inv.lnew {its : List Value} {t' : Nat} (I : Inv X pins σ H s) (hv : Vals ys its) (hz : ys.length ≤ sizeLine) :
    Inv X pins σ (upd H s.heap.objs.size (.lst ys)) { s with heap := s.heap.push { cls := .type "list", data := .seq its.toArray }, toks := t' } :=
  I.laid (fun _ _ q => Heap.get?_push_of_some _ q) (Nat.le_refl _) ⟨hz, its, 0, hv, Heap.get?_push_size _ rfl⟩
theorem Inv.fresh (I : Inv X pins σ H s) : H s.heap.objs.size = none := I.hok.fresh (Nat.le_refl _)
theorem Inv.lstM (I : Inv X pins σ H s) (hH : H l = some (.lst xs)) : xs.length ≤ sizeLine ∧ ∃ (its : List Value) (n : Nat), Vals xs its ∧ xs.length = its.length ∧ s.heap.get? l = some { cls := .type "list", data := .seq its.toArray n } := by
  obtain ⟨z, its, n, r, e⟩ := I.hok l _ hH
  exact ⟨z, its, n, r, r.length, e⟩

theorem notLongL {n : Nat} (h : n ≤ sizeLine) : Builtin.List.listTooLong n = false := by
  unfold Builtin.List.listTooLong
  exact decide_eq_false (by omega)
end

section
variable {X : Cx}

def rAppend : V → List V → Hp → VK → Prop := fun x vs H Q => ∃ l xs y, x = .ref l ∧ vs = [y] ∧ H l = some (.lst xs) ∧ xs.length < sizeLine ∧ Q .non (upd H l (.lst (xs ++ [y])))
theorem mt_append : MtM X "list.append" rAppend := by
  intro pins s σ H x vs v us Q I rx rv h
  obtain ⟨l, xs, y, rfl, rfl, hH, hz, q⟩ := h
  cases rx
  obtain ⟨u, rfl, ru⟩ := rv.one
  obtain ⟨z, its, n, r, hl, e⟩ := I.lstM hH
  refine call_meets F.slot_list_append ⟨_, e, rfl⟩ F.entry_list_append (F.args_list_append_2 _ _) (PySem.list_append l its.toArray n u (by rw [List.size_toArray]; omega)) ⟨e, ?_⟩
  refine ⟨.non, _, I.lset (its' := its ++ [u]) hH e (by simp) (r.append (.cons ru .nil)) ?_, rfl, q⟩
  rw [List.length_append, List.length_singleton]
  omega

def rCat : R2 := fun x y H Q => ∃ l b xs zs, x = .ref l ∧ y = .ref b ∧ H l = some (.lst xs) ∧ H b = some (.lst zs) ∧ xs.length + zs.length ≤ sizeLine ∧ ∀ p, H p = none → Q (.ref p) (upd H p (.lst (xs ++ zs)))
theorem op_cat : OpR X (binaryOp .Add) rCat := by
  intro pins s σ H x y v u Q I rx ry h
  obtain ⟨l, b, xs, zs, rfl, rfl, hH, hB, hz, q⟩ := h
  cases rx
  cases ry
  obtain ⟨z, its, n, r, hl, e⟩ := I.lstM hH
  obtain ⟨z2, its2, n2, r2, hl2, e2⟩ := I.lstM hB
  refine PySem.P.add_list e e2 ?_ (by rw [List.size_toArray, List.size_toArray]; omega)
  have ea : its.toArray ++ its2.toArray = (its ++ its2).toArray := by simp
  rw [ea]
  exact ⟨.ref _, _, I.lnew (t' := s.toks) (r.append r2) (by rw [List.length_append]; omega), rfl, q _ I.fresh⟩
def rRep : R2 := fun x y H Q => ∃ l k xs, x = .ref l ∧ y = .int k ∧ H l = some (.lst xs) ∧ -(2 ^ 63) ≤ k ∧ k < 2 ^ 63 ∧ xs.length * k.toNat ≤ sizeLine ∧
  ∀ p, H p = none → Q (.ref p) (upd H p (.lst (List.replicate k.toNat xs).flatten))
theorem len_rep {α : Type} (xs : List α) (k : Nat) : (List.replicate k xs).flatten.length = k * xs.length := by
  induction k with
  | zero => simp
  | succ k ih => rw [List.replicate_succ, List.flatten_cons, List.length_append, ih, Nat.succ_mul, Nat.add_comm]
theorem op_rep : OpR X (binaryOp .Mult) rRep := by
  intro pins s σ H x y v u Q I rx ry h
  obtain ⟨l, k, xs, rfl, rfl, hH, h1, h2, hz, q⟩ := h
  cases rx
  obtain ⟨t, rfl⟩ := ry
  obtain ⟨z, its, n, r, hl, e⟩ := I.lstM hH
  have hlen : its.toArray.size * k.toNat ≤ sizeLine := by rw [List.size_toArray, ← hl]; exact hz
  have hcap : ¬ its.toArray.size * k.toNat > (2 ^ 63 - 1) / 8 := by
    have : (sizeLine : Nat) ≤ (2 ^ 63 - 1) / 8 := by decide
    omega
  have hfit : ¬ (!Builtin.List.listFitsIndex k) = true := by
    rw [fitsIndex_both h1 h2]
    exact Bool.false_ne_true
  have hlong : ¬ Builtin.List.listTooLong (its.toArray.size * k.toNat) = true := by
    rw [notLongL hlen]
    exact Bool.false_ne_true
  have hnew : List.foldl (fun x1 x2 => x1 ++ x2) #[] (List.replicate (if its.toArray.isEmpty = true then 0 else k.toNat) its.toArray) = (List.replicate k.toNat its).flatten.toArray := by
    have f0 : ∀ m : Nat, List.foldl (fun x1 x2 => x1 ++ x2) #[] (List.replicate m its.toArray) = (List.replicate m its).flatten.toArray := fun m => by
      have := foldl_rep its m []
      rw [List.nil_append] at this
      exact this
    rw [f0]
    cases its with
    | nil => simp
    | cons a r' => rw [if_neg (by simp)]
  refine wpAny_binaryOp_repeat_ref (T := "list") (U := "int") (by decide) ⟨_, e, rfl⟩ (fun s' => typeIs_int s' k t) noFill_list_mul F.fills_int_mul F.slot_int_rmul repeat_list F.slot_int_index.lookup
    (call_meets F.slot_int_rmul (typeIs_int s k t) F.entry_int_rmul (F.args_int_rmul_2 _ _) (int___rmul___int_list k t l its.toArray n)
      ⟨e, rfl, ⟨_, e, rfl⟩, call_meets F.slot_list_mul ⟨_, e, rfl⟩ F.entry_list_mul (F.args_list_mul_2 _ _) (AutoListH.list___mul___list_int_3 l its.toArray n k t hfit hcap hlong) ⟨e, ?_⟩⟩)
  rw [hnew]
  exact ⟨.ref _, _, I.lnew (t' := s.toks) (r.rep k.toNat) (by rw [len_rep, Nat.mul_comm]; exact hz), rfl, q _ I.fresh⟩

end

section
variable {prog : Program} {w : World} {A : Around} {E : Value → Shared → Prop} {s : Shared}
end

section
variable {X : Cx}
end
end L2


namespace L2
open PySem PySem.Spec PyProof.Rows

section
variable {κ : Type} [DecidableEq κ]
def valV (kvs : List (κ × V)) (k : κ) : Option V := (kvs.find? fun kv => decide (kv.1 = k)).map (·.2)
def putK (kvs : List (κ × V)) (k : κ) (v : V) : List (κ × V) :=
  if (kvs.any fun kv => decide (kv.1 = k)) = true then kvs.map (fun kv => if kv.1 = k then (kv.1, v) else kv) else kvs ++ [(k, v)]
def dropK (kvs : List (κ × V)) (k : κ) : List (κ × V) := kvs.filter fun kv => decide (kv.1 ≠ k)

theorem valV_pos {p : κ × V} {r : List (κ × V)} {k : κ} (e : p.1 = k) : valV (p :: r) k = some p.2 := by simp [valV, List.find?_cons, e]
theorem valV_neg {p : κ × V} {r : List (κ × V)} {k : κ} (e : ¬ p.1 = k) : valV (p :: r) k = valV r k := by simp [valV, List.find?_cons, e]
theorem valV_any (k : κ) : ∀ kvs : List (κ × V), (kvs.any fun kv => decide (kv.1 = k)) = (valV kvs k).isSome
  | [] => rfl
  | p :: r => by
    rw [List.any_cons]
    by_cases e : p.1 = k
    · simp only [valV_pos e, decide_eq_true e, Bool.true_or, Option.isSome_some]
    · rw [valV_neg e, decide_eq_false e, Bool.false_or]; exact valV_any k r
theorem length_putK (kvs : List (κ × V)) (k : κ) (v : V) : (putK kvs k v).length ≤ kvs.length + 1 := by
  unfold putK
  split
  · rw [List.length_map]; omega
  · rw [List.length_append, List.length_cons, List.length_nil]; omega
theorem RelO.isSome_eq {o : Option V} {u : Option Value} (r : RelO o u) : o.isSome = u.isSome := by
  cases o with
  | none => cases u with
    | none => rfl
    | some _ => exact (show False from r).elim
  | some _ => cases u with
    | none => exact (show False from r).elim
    | some _ => rfl
theorem RelO.getD {o : Option V} {u : Option Value} {d : V} {d' : Value} (r : RelO o u) (rd : RelV d d') : RelV (o.getD d) (u.getD d') := by
  cases o with
  | none => cases u with
    | none => exact rd
    | some _ => exact (show False from r).elim
  | some _ => cases u with
    | none => exact (show False from r).elim
    | some _ => exact r

theorem KV.val {kvs : List (κ × V)} {vs : List (κ × Value)} (r : KV kvs vs) (k : κ) : RelO (valV kvs k) (valueAt vs k) := by
  unfold KV at r
  induction r with
  | nil => exact True.intro
  | @cons p q ps qs h t ih =>
    obtain ⟨h1, h2⟩ := h
    by_cases e : p.1 = k
    · have e' : q.1 = k := h1.symm.trans e
      have b : valueAt (q :: qs) k = some q.2 := by simp [valueAt, List.find?_cons, e']
      rw [valV_pos e, b]; exact h2
    · have e' : ¬ q.1 = k := fun z => e (h1.trans z)
      have b : valueAt (q :: qs) k = valueAt qs k := by simp [valueAt, List.find?_cons, e']
      rw [valV_neg e, b]; exact ih
theorem KV.any {kvs : List (κ × V)} {vs : List (κ × Value)} (r : KV kvs vs) (k : κ) : (kvs.any fun kv => decide (kv.1 = k)) = vs.any fun kv => decide (kv.1 = k) := by
  unfold KV at r
  induction r with
  | nil => rfl
  | cons h t ih => rw [List.any_cons, List.any_cons, ih, h.1]
theorem KV.repl {kvs : List (κ × V)} {vs : List (κ × Value)} (r : KV kvs vs) (k : κ) {y : V} {u : Value} (ry : RelV y u) :
    KV (kvs.map fun kv => if kv.1 = k then (kv.1, y) else kv) (vs.map fun kv => if kv.1 = k then (kv.1, u) else kv) := by
  unfold KV at r ⊢
  induction r with
  | nil => exact .nil
  | @cons p q ps qs h t ih =>
    rw [List.map_cons, List.map_cons]
    refine .cons ?_ ih
    obtain ⟨h1, h2⟩ := h
    by_cases e : p.1 = k
    · rw [if_pos e, if_pos (h1.symm.trans e)]; exact ⟨h1, ry⟩
    · rw [if_neg e, if_neg (fun z => e (h1.trans z))]; exact ⟨h1, h2⟩
theorem KV.put {kvs : List (κ × V)} {vs : List (κ × Value)} (r : KV kvs vs) (k : κ) {y : V} {u : Value} (ry : RelV y u) : KV (putK kvs k y) (stored vs k u) := by
  unfold putK stored
  rw [r.any k]
  by_cases e : (vs.any fun kv => decide (kv.1 = k)) = true
  · rw [if_pos e, if_pos e]; exact r.repl k ry
  · rw [if_neg e, if_neg e]; exact Paired.snoc r ⟨rfl, ry⟩
theorem KV.drop {kvs : List (κ × V)} {vs : List (κ × Value)} (r : KV kvs vs) (k : κ) : KV (dropK kvs k) (without vs k) := by
  unfold KV at r ⊢
  unfold dropK without
  induction r with
  | nil => exact .nil
  | @cons p q ps qs h t ih =>
    obtain ⟨h1, h2⟩ := h
    rw [List.filter_cons, List.filter_cons]
    by_cases e : p.1 = k
    · have a : ¬ decide (p.1 ≠ k) = true := by simp [e]
      have b : ¬ decide (q.1 ≠ k) = true := by simp [h1.symm.trans e]
      rw [if_neg a, if_neg b]; exact ih
    · have e' : ¬ q.1 = k := fun z => e (h1.trans z)
      have a : decide (p.1 ≠ k) = true := by simp [e]
      have b : decide (q.1 ≠ k) = true := by simp [e']
      rw [if_pos a, if_pos b]; exact .cons ⟨h1, h2⟩ ih
theorem KV.keys {kvs : List (κ × V)} {vs : List (κ × Value)} (r : KV kvs vs) : kvs.map (·.1) = vs.map (·.1) := by
  unfold KV at r
  induction r with
  | nil => rfl
  | cons h t ih => rw [List.map_cons, List.map_cons, ih, h.1]
theorem KV.length {kvs : List (κ × V)} {vs : List (κ × Value)} (r : KV kvs vs) : kvs.length = vs.length := Paired.length r
end


theorem kV_is {P : Program} {w : World} {k : Key} {u : Value} (r : RelV (kV k) u) : (mixKind P w).is k u = true := by
  cases k with
  | inl i => obtain ⟨t, e⟩ := (show ∃ t, u = Value.int i t from r); subst e; exact mixKind_int P w i t
  | inr x => obtain ⟨t, e⟩ := (show ∃ t, u = Value.str x t from r); subst e; exact mixKind_str P w x t
theorem items_are {P : Program} {w : World} : ∀ {ks : List Key} {us : List Value}, Vals (ks.map kV) us → ItemsAre (mixKind P w) ks us
  | [], _, r => by rw [List.map_nil] at r; cases r; exact .nil
  | k :: ks, _, r => by
    rw [List.map_cons] at r
    cases r with
    | cons h t => exact .cons (kV_is h) (items_are t)

abbrev KT (H : Hp) : List (List Key × V) → List (List Key × Addr × Value) → Prop := Paired fun p q => p.1 = q.1 ∧ H q.2.1 = some (.tup (p.1.map kV)) ∧ RelV p.2 q.2.2
theorem KT.val {H : Hp} {kvs : List (List Key × V)} {xs : List (List Key × Addr × Value)} (r : KT H kvs xs) (k : List Key) : RelO (valV kvs k) ((atKey xs k).map (·.2)) := by
  induction r with
  | nil => exact True.intro
  | @cons p q ps qs h t ih =>
    obtain ⟨h1, _, h2⟩ := h
    by_cases e : p.1 = k
    · have e' : q.1 = k := h1.symm.trans e
      have b : atKey (q :: qs) k = some q.2 := by simp [atKey, List.find?_cons, e']
      rw [valV_pos e, b]; exact h2
    · have e' : ¬ q.1 = k := fun z => e (h1.trans z)
      have b : atKey (q :: qs) k = atKey qs k := by simp [atKey, List.find?_cons, e']
      rw [valV_neg e, b]; exact ih
theorem KT.repl {H : Hp} {kvs : List (List Key × V)} {xs : List (List Key × Addr × Value)} (r : KT H kvs xs) (k : List Key) {y : V} {u : Value} (ry : RelV y u) :
    KT H (kvs.map fun kv => if kv.1 = k then (kv.1, y) else kv) (xs.map (putAt k u)) := by
  induction r with
  | nil => exact .nil
  | @cons p q ps qs h t ih =>
    rw [List.map_cons, List.map_cons]
    refine .cons ?_ ih
    obtain ⟨h1, h2, h3⟩ := h
    unfold putAt
    by_cases e : p.1 = k
    · rw [if_pos e, if_pos (h1.symm.trans e)]; exact ⟨h1, h2, ry⟩
    · rw [if_neg e, if_neg (fun z => e (h1.trans z))]; exact ⟨h1, h2, h3⟩
theorem KT.put {H : Hp} {kvs : List (List Key × V)} {xs : List (List Key × Addr × Value)} (r : KT H kvs xs) (k : List Key) {b : Addr} {y : V} {u : Value} (hb : H b = some (.tup (k.map kV))) (ry : RelV y u) :
    KT H (putK kvs k y) (storedH xs k b u) := by
  have e : (kvs.any fun kv => decide (kv.1 = k)) = (atKey xs k).isSome := by
    rw [valV_any, (r.val k).isSome_eq, Option.isSome_map]
  unfold putK storedH
  rw [e]
  by_cases q : (atKey xs k).isSome = true
  · rw [if_pos q, if_pos q]; exact r.repl k ry
  · rw [if_neg q, if_neg q]; exact Paired.snoc r ⟨rfl, hb, ry⟩
theorem KT.keeps {H H' : Hp} {kvs : List (List Key × V)} {xs : List (List Key × Addr × Value)} (r : KT H kvs xs) (ht : ∀ b ys, H b = some (.tup ys) → H' b = some (.tup ys)) : KT H' kvs xs :=
  Paired.mapP r fun _ _ z => ⟨z.1, ht _ _ z.2.1, z.2.2⟩

section
variable {P : Program} {w : World} {H : Hp} {h : Heap} {a : Addr}
theorem rd_of {u : HO} (ok : HOk P w H h) (e : Rd H a u) : ObjOk P w H h a u := e.ok ok
theorem dk_rd {kvs : List (Key × V)} (ok : HOk P w H h) (e : Rd H a (.dK kvs)) : kvs.length ≤ sizeLine ∧ (a == sysModules) = false ∧ ∃ vs, KV kvs vs ∧ h.DictOf (mixKind P w) a vs :=
  show ObjOk P w H h a (.dK kvs) from rd_of ok e
theorem key_of {ks : List Key} (ok : HOk P w H h) (e : H a = some (.tup (ks.map kV))) : (tupleKind (mixKind P w)).is h ks a := by
  obtain ⟨_, its, r, o, h1, h2, n, h3⟩ := (show ObjOk P w H h a (.tup (ks.map kV)) from ok a _ e)
  exact ⟨o, its.toArray, n, h1, h2, h3, by simpa using items_are r⟩
theorem dt_rd {kvs : List (List Key × V)} (ok : HOk P w H h) (e : Rd H a (.dT kvs)) : kvs.length ≤ sizeLine ∧ (a == sysModules) = false ∧
    ∃ xs, KT H kvs xs ∧ h.DictOfH (tupleKind (mixKind P w)) a xs := by
  obtain ⟨z, y, xs, r, o, es, ep, h1, h2, h3, h4, h5⟩ := (show ObjOk P w H h a (.dT kvs) from rd_of ok e)
  refine ⟨z, y, xs, r, o, es, ep, h1, h2, h3, h4, fun x hx => ?_, h5⟩
  have all : ∀ {l : List (List Key × V)} {m : List (List Key × Addr × Value)}, KT H l m → ∀ x ∈ m, (tupleKind (mixKind P w)).is h x.1 x.2.1 := by
    intro l m q
    induction q with
    | nil => intro x hx; exact nomatch hx
    | @cons p q ps qs hq t ih =>
      intro x hx
      rcases List.mem_cons.mp hx with e | hx
      · subst e
        exact key_of ok (by rw [← hq.1]; exact hq.2.1)
      · exact ih x hx
  exact all r x hx
theorem dt_of {kvs : List (List Key × V)} (ok : HOk P w H h) (e : H a = some (.dT kvs)) : kvs.length ≤ sizeLine ∧ (a == sysModules) = false ∧
    ∃ xs, KT H kvs xs ∧ h.DictOfH (tupleKind (mixKind P w)) a xs := dt_rd ok (.inl e)
end

def DGet (H : Hp) (a : Addr) (y : V) (r : Option V) : Prop :=
  (∃ kvs k, Rd H a (.dK kvs) ∧ y = kV k ∧ r = valV kvs k) ∨ ∃ kvs k b, Rd H a (.dT kvs) ∧ y = .ref b ∧ H b = some (.tup (k.map kV)) ∧ r = valV kvs k
def DPut (H : Hp) (a : Addr) (y v : V) (H' : Hp) : Prop :=
  (∃ kvs k, H a = some (.dK kvs) ∧ y = kV k ∧ kvs.length < sizeLine ∧ H' = upd H a (.dK (putK kvs k v))) ∨
  ∃ kvs k b, H a = some (.dT kvs) ∧ y = .ref b ∧ H b = some (.tup (k.map kV)) ∧ kvs.length < sizeLine ∧ H' = upd H a (.dT (putK kvs k v))
theorem DGet.k {H : Hp} {a : Addr} {kvs : List (Key × V)} {k : Key} (e : H a = some (.dK kvs)) : DGet H a (kV k) (valV kvs k) := .inl ⟨kvs, k, .inl e, rfl, rfl⟩
theorem DGet.t {H : Hp} {a b : Addr} {kvs : List (List Key × V)} {k : List Key} (e : H a = some (.dT kvs)) (eb : H b = some (.tup (k.map kV))) : DGet H a (.ref b) (valV kvs k) := .inr ⟨kvs, k, b, .inl e, rfl, eb, rfl⟩
theorem DPut.k {H : Hp} {a : Addr} {kvs : List (Key × V)} {k : Key} {v : V} (e : H a = some (.dK kvs)) (hl : kvs.length < sizeLine) : DPut H a (kV k) v (upd H a (.dK (putK kvs k v))) := .inl ⟨kvs, k, e, rfl, hl, rfl⟩
theorem DPut.t {H : Hp} {a b : Addr} {kvs : List (List Key × V)} {k : List Key} {v : V} (e : H a = some (.dT kvs)) (eb : H b = some (.tup (k.map kV))) (hl : kvs.length < sizeLine) :
    DPut H a (.ref b) v (upd H a (.dT (putK kvs k v))) := .inr ⟨kvs, k, b, e, rfl, eb, hl, rfl⟩


section
variable {X : Cx} {pins : List (Addr × Obj)} {σ : St} {H : Hp} {s : Shared} {a : Addr} {y v : V} {u r : Value} {o : Option V} {A : Around} {E : Value → Shared → Prop}

theorem Inv.big (I : Inv X pins σ H s) : sysModules < s.heap.objs.size := by
  have h : mainGlobals < s.heap.objs.size := (I.mod.glob.keeps I.bk).lt
  exact Nat.lt_trans (by decide) h

theorem d_in {Q : Value → Shared → Prop} (hu : A.units + 1 < cLine) (I : Inv X pins σ H s) (g : DGet H a y o) (ry : RelV y u) (h : ∀ s', Inv X pins σ H s' → Q (.bool o.isSome) s') :
    wpAny (model X.prog X.w) A (compareOp .In u (.ref a)) Q E s := by
  rcases g with ⟨kvs, k, e, ey, l⟩ | ⟨kvs, k, b, e, ey, eb, l⟩
  · subst ey
    obtain ⟨z, hd, vs, rel, dd⟩ := dk_rd I.hok e
    refine wpAny_in_of (kV_is ry) hd dd.mapOf ?_
    rw [← (rel.val k).isSome_eq, ← l]
    exact h _ (I.tok _)
  · subst ey
    cases (show u = Value.ref b from ry)
    obtain ⟨z, hd, xs, rel, dd⟩ := dt_rd I.hok e
    refine wpAny_in_heap (tupleKind_room_in1 hu) (key_of I.hok eb) hd dd ?_
    have q := (rel.val k).isSome_eq
    rw [Option.isSome_map] at q
    rw [← q, ← l]
    exact h _ (I.tok _)
theorem d_write {h' : Heap} {t' : Nat} {ob : HO} (I : Inv X pins σ H s) (mu : Mut (H a)) (hs : Heap.SameBut a s.heap h') (he : ∃ q, h'.get? a = some q) (new : ObjOk X.prog X.w (upd H a ob) h' a ob) :
    Inv X pins σ (upd H a ob) { s with heap := h', toks := t' } :=
  I.write (x := a) (e := a) mu (.inl rfl) (fun b q hb z => (hs.2 b hb).trans z) he new
end

section
variable {X : Cx} {pins : List (Addr × Obj)} {σ : St} {H : Hp} {s : Shared} {a : Addr} {kvs : List (Key × V)} {k : Key} {u : Value} {A : Around} {E : Value → Shared → Prop}
end


section
variable {X : Cx} {o i e value : Expr} {pos pos' tpos : Pos} {td ty tv : TE}
end


theorem dt_empty {P : Program} {w : World} {H : Hp} (h : Heap) (hb : sysModules < h.objs.size) : ObjOk P w H (h.push { cls := .type "dict", data := .dict #[] }) h.objs.size (.dT []) :=
  ⟨Nat.zero_le _, beq_eq_false_iff_ne.mpr (Ne.symm (Nat.ne_of_lt hb)), [], .nil, _, #[], 0, Heap.get?_push_size _ rfl, ⟨rfl, rfl, rfl⟩, rfl, rfl, List.nodup_nil⟩
section
variable {X : Cx} {pos : Pos}
end

def tPairs : List (TE × TE) → St → Hp → (List (V × V) → Hp → Prop) → Prop
  | [], _, H, Q => Q [] H
  | (tk, tv) :: r, σ, H, Q => tk σ H fun x H1 => tv σ H1 fun y H2 => tPairs r σ H2 fun ps H3 => Q ((x, y) :: ps) H3
abbrev VV : List (V × V) → List (Value × Value) → Prop := Paired fun p q => RelV p.1 q.1 ∧ RelV p.2 q.2
def PPs (X : Cx) (pos : Pos) (keys : List (Option Expr)) (values : List Expr) (trs : List (TE × TE)) : Prop :=
  ∀ (pins : List (Addr × Obj)) (s : Shared) (σ : St) (H : Hp) (Q : List (V × V) → Hp → Prop), Inv X pins σ H s → tPairs trs σ H Q →
    wpAny (model X.prog X.w) X.A (evalPairs (pairTrees keys values X.env pos)) (fun vs s' => ∃ ps H', Inv X pins σ H' s' ∧ VV ps vs ∧ Q ps H') X.xe s
theorem pps_nil {X : Cx} {pos : Pos} : PPs X pos [] [] [] := fun pins s σ H Q I h => pairTrees_nil_walk ⟨[], H, I, .nil, h⟩
theorem pps_cons {X : Cx} {pos : Pos} {k v : Expr} {ks : List (Option Expr)} {vs : List Expr} {tk tv : TE} {trs : List (TE × TE)} (hk : PE X k tk) (hv : PE X v tv) (hr : PPs X pos ks vs trs) :
    PPs X pos (some k :: ks) (v :: vs) ((tk, tv) :: trs) := fun pins s σ H Q I h =>
  pairTrees_cons_walk (thn (hk pins s σ H _ I h) fun u s1 ⟨x, H1, I1, rx, q1⟩ => thn (hv pins s1 σ H1 _ I1 q1) fun w2 s2 ⟨y, H2, I2, ry, q2⟩ =>
    thn (hr pins s2 σ H2 _ I2 q2) fun ws s3 ⟨ps, H3, I3, rel, q3⟩ => ⟨(x, y) :: ps, H3, I3, .cons ⟨rx, ry⟩ rel, q3⟩)

section
variable {X : Cx} {pins : List (Addr × Obj)} {σ : St} {H : Hp} {s : Shared} {a : Addr} {y d : V} {u r : Value} {o : Option V} {A : Around} {E : Value → Shared → Prop}
end

section
variable {X : Cx} {o e f : Expr} {apos cpos : Pos} {td ty tx : TE}
end

section
variable {X : Cx} {pins : List (Addr × Obj)} {σ : St} {H : Hp} {s : Shared} {a : Addr} {kvs : List (Key × V)} {A : Around} {E : Value → Shared → Prop}
end


section
variable {X : Cx} {pins : List (Addr × Obj)} {σ : St} {H : Hp} {s : Shared} {a : Addr} {y : V} {u : Value} {A : Around} {E : Value → Shared → Prop}
end
end L2


namespace Att
open PySem PySem.W PySem.Calls PyProof.Rows

theorem ints_of_wellAll {P : Params} {h : Heap} : ∀ (ns : List Int) (vs : List Value), WellAll P h vs (ns.map WData.int) → IntsAre vs ns := by
  intro ns
  induction ns with
  | nil =>
    intro vs w
    rw [List.map_nil] at w
    cases w
    exact .nil
  | cons n ns ih =>
    intro vs w
    rw [List.map_cons] at w
    cases w with
    | cons a b =>
      cases a
      exact .cons _ _ (ih _ b)

theorem script_of {l : OpenLaw} {n : Nat} (hn : l.most = some n) {P : Params} {h : Heap} {args : List WData} {vals : List Value}
    (hpre : l.row.toRowW.claim.pre args = true) (hwl : WellAll P h vals args) :
    ∃ a vs ns, vals = [Value.ref a] ∧ args = [WData.list (ns.map WData.int)] ∧ h.get? a = some { cls := .type "list", data := .seq vs.toArray } ∧ IntsAre vs ns ∧ ns.length ≤ n := by
  have hsh : WShape.hasAll [] args [.list .int] = true := (pre_splitW hpre).1
  have hc : l.pre.holds [] { args := args } = true := (pre_splitW hpre).2
  obtain ⟨d, r, rfl, h1, h2⟩ := hasAllW_cons hsh
  obtain rfl := hasAllW_nil h2
  obtain ⟨xs, rfl, h3⟩ := hasW_list h1
  obtain ⟨ns, rfl⟩ := items_int h3
  have hlen : ns.length ≤ n := by
    unfold OpenLaw.pre at hc
    have h4 : (WTm.not (.lt (.lit (.int (n : Int))) (.len (.arg 0)))).holds [] { args := [.list (ns.map .int)] } = true := by
      have h4 := (holds_andW hc).1
      rw [hn] at h4
      exact h4
    have h5 := condW_of h4 (w_not (w_lt w_lit (w_len_list (w_arg rfl))))
    rw [List.length_map] at h5
    refine Nat.le_of_not_lt fun q => ?_
    have q' : (n : Int) < ((ns.length : Nat) : Int) := by omega
    first
      | (rw [decide_eq_true q'] at h5; exact absurd h5 (by decide))
      | (simp at h5; omega)
  cases hwl with
  | cons w1 w2 =>
    cases w2
    cases w1 with
    | list ho hall => exact ⟨_, _, ns, rfl, rfl, ho, ints_of_wellAll ns _ hall, hlen⟩

theorem post_true (l : OpenLaw) (args : List WData) : l.row.toRowW.claim.post args (.bool true) args = true :=
  postW_of (r := l.row.toRowW) (X := (true == true))
    (show WShape.has [] (.bool true) .bool = true by first | rfl | decide | simp [WShape.has, WShape.arms, WShape.armsAll])
    (show (WTm.eq .res (.lit (.bool true))).value [] { args := args, res := some (.bool true), after := args } = some (.bool (true == true)) from w_eq_bool (w_res rfl) w_lit) rfl

theorem attach_call {l : OpenLaw} {n : Nat} {q : Program} {loose : List Str} {XP : (Str → Option Value) → Heap → Prop} {YP : World → Heap → Prop} {d : DefRec}
    (hn : l.most = some n) (hdf : d.params.defaults = [])
    (call : ∀ (w : World) (s₀ s₁ : Shared) (mg mb : Str → Option Value) (fa : Addr) (o : Obj) (pm cd doc : Value) (a : Addr) (vs : List Value) (ns : List Int),
      Ground q loose [] XP w s₀ mg mb s₁.heap → YP w s₁.heap →
      s₁.heap.get? fa = some o → o.data = .func (docDef d.name d.params d.body d.scope pm cd doc) → s₁.heap.CodeRec cd d.name → mg d.name = some (.ref fa) →
      s₁.heap.get? a = some { cls := .type "list", data := .seq vs.toArray } → IntsAre vs ns → ns.length ≤ n → s₁.gens = #[] →
      codeAny (model l.prog w) callerA (.call (.ref fa) ⟨[.ref a], []⟩) (fun r s' => r = .ok (.ret (.bool true)) ∧ OldK s₁.heap s'.heap ∧ s'.os = s₁.os ∧ AllBare s'.gens) s₁) :
    WalkO q loose XP YP l.row.toRowW d [] (fun f vs => PySem.call f vs) := by
  intro w s₀ s₁ mg mb G Y fa o pm cd doc dV kV ho hd hcd hD hmg hg args vals as hpre hlay hrd hwl hlo
  obtain rfl : dV = .none := Dflts.none hD hdf
  obtain rfl : kV = .none := Dflts.noKw hD
  obtain ⟨a, vs, ns, rfl, rfl, hobj, hints, hlen⟩ := script_of hn hpre hwl
  refine enter_call (codeAny_mono (call w s₀ s₁ mg mb fa o pm cd doc a vs ns G Y ho (fd_plain hd) hcd hmg hobj hints hlen hg) fun r s' hq => ?_)
  obtain ⟨rfl, h2, h3, h4⟩ := hq
  exact ⟨.inl ⟨.bool true, .bool true, [], rfl, fun _ => rfl, .bool true, post_true l _, fun _ => ⟨List.Pairwise.nil, fun _ hm => (nomatch hm)⟩⟩, h2, h3, h4⟩

section
variable {prog : Program} {w : World} {A : Around} {E : Value → Shared → Prop} {s : Shared} {K : Frag}

def ledger (h : Heap) (L d : Addr) : List (Addr × Obj) := (List.range h.objs.size).filterMap fun a => if a = L ∨ a = d then none else (h.get? a).map fun o => (a, o)
end
end Att

namespace L2
open PySem PySem.Spec PyProof.Rows

theorem vals_ints : ∀ {vs : List Value} {ns : List Int}, IntsAre vs ns → Vals (ns.map V.int) vs
  | _, _, .nil => .nil
  | _, _, .cons n t h => .cons ⟨t, rfl⟩ (vals_ints h)

def Only (H : Hp) : Prop := ∀ b, H b = none ∨ ∃ o xs, H b = some (.frz o (.lst xs))

theorem law_call {P : Program} {w : World} {K : PySem.W.Frag} {mg mb : Str → Option Value} {CX : CXT} {k : Nat} {fa a : Addr} {fd : FuncData} {x : Str} {sp : Sp} {s₁ : Shared} {vs : List Value} {ns : List Int}
    (KX : K.In s₁.heap) (hns : s₁.heap.Ns mainGlobals mg) (hb : s₁.heap.Ns builtinsNs mb) (hbb : ∀ x : Str, x ≠ "__name__" → mb x = bootBuiltins x) (hlim : s₁.heap.NoLimit) (hg : s₁.gens = #[])
    (ha : s₁.heap.get? a = some { cls := .type "list", data := .seq vs.toArray }) (hi : IntsAre vs ns) (hl : ns.length ≤ sizeLine) (hr : Room k callerA)
    (F : ∀ base : Heap, K.In base → base.Ns mainGlobals mg → FnOk P w K mg base CX k fa fd [x] sp) (hbind : ∀ (s : Shared) (u : Value), BindsTo s fd ⟨[u], []⟩ [(x, u)])
    (hsp : ∀ H : Hp, Only H → SqL K H a (ns.map V.int) → sp [.ref a] H (fun v _ => v = .bl true) fun _ _ _ => False)
    (hCX : ∀ H e s', CX [] H s₁ (fun _ _ _ => False) e s' → False) :
    codeAny (model P w) callerA (.call (.ref fa) ⟨[.ref a], []⟩) (fun r s' => r = .ok (.ret (.bool true)) ∧ OldK s₁.heap s'.heap ∧ s'.os = s₁.os ∧ AllBare s'.gens) s₁ := by
  have rv := vals_ints hi
  have lenV := hi.length
  -- from an abstract heap in which nothing but the script may be tracked
  have core : ∀ H : Hp, Only H → SqL K H a (ns.map V.int) → HOk P w H s₁.heap → (∀ b, H b ≠ none → b = a) → (H a ≠ none → K.lookup a = none) →
      codeAny (model P w) callerA (.call (.ref fa) ⟨[.ref a], []⟩) (fun r s' => r = .ok (.ret (.bool true)) ∧ OldK s₁.heap s'.heap ∧ s'.os = s₁.os ∧ AllBare s'.gens) s₁ := by
    intro H hO hS hok hA hK
    have base_of : ∀ {b : Addr} {o : Obj}, s₁.heap.get? b = some o → H b = none → (hidT s₁.heap H).get? b = some o := fun e n => hidT_get e n
    have noA : ∀ {b : Addr} {o : Obj} {es : Array DictEntry} {ep : Nat}, s₁.heap.get? b = some o → o.data = .dict es ep → H b = none := fun {b o es ep} e d => by
      cases q : H b with
      | none => rfl
      | some u =>
        have e' : b = a := hA b (by rw [q]; simp)
        subst e'
        rw [ha] at e; cases e
        have d' : Data.seq vs.toArray _ = Data.dict es ep := d
        cases d'
    have nsK : ∀ {b : Addr} {m : Str → Option Value}, s₁.heap.Ns b m → (hidT s₁.heap H).Ns b m := fun {b m} ⟨o, es, ep, e, d, r⟩ => ⟨o, es, ep, base_of e (noA e d), d, r⟩
    have hKb : K.In (hidT s₁.heap H) := fun b o e => base_of (KX b o e) (by
      cases q : H b with
      | none => rfl
      | some u =>
        have e' : b = a := hA b (by rw [q]; simp)
        subst e'
        rw [hK (by rw [q]; simp)] at e; cases e)
    have hM : Mod K mg (hidT s₁.heap H) := ⟨hKb, nsK hns, ⟨mb, nsK hb, hbb⟩, let ⟨mc, h1, h2⟩ := hlim; ⟨mc, nsK h1, h2⟩⟩
    have e0 : Env0 P w K mg (hidT s₁.heap H) callerA [] s₁ H := ⟨rfl, hM, fun b o e => of_hidT e, Nat.le_of_eq (hidT_size _ _), trivial, fun b hb => absurd (show b ∈ ([] : List Addr) from hb) (by simp), hok, .of_eq hg⟩
    refine codeAny_mono ((F _ hKb (nsK hns)).run callerA [] s₁ H ⟨[.ref a], []⟩ [.ref a] [.ref a] _ _ hr e0 (hbind s₁ (.ref a)) (.cons rfl .nil) (hsp H hO hS)) fun r s' h => ?_
    cases r with
    | error e => exact (hCX H e s' h).elim
    | ok fl =>
      cases fl with
      | next => exact False.elim h
      | brk => exact False.elim h
      | cont => exact False.elim h
      | ret u =>
        obtain ⟨v, H', os, bare, un, hok', r', q⟩ := h
        have q' : v = .bl true := q
        subst q'
        obtain rfl : u = Value.bool true := r'
        refine ⟨rfl, OldK.of_keep fun b o e => ?_, os, bare⟩
        cases q : H b with
        | none => exact un.keep b o e q (by intro z; exact absurd (show b ∈ ([] : List Addr) from z) (by simp)) (by simp)
        | some u =>
          rcases hO b with z | ⟨ob, xs, z⟩
          · rw [q] at z; cases z
          · have z2 := un.frzs b ob _ z
            obtain ⟨e1, _⟩ := hok b _ z
            obtain ⟨e2, _⟩ := hok' b _ z2
            rw [e] at e1; cases e1
            exact e2
  cases hk : K.lookup a with
  | some o =>
    -- the script is one of the module's own objects
    have e := KX a o hk
    rw [ha] at e
    cases e
    refine core (fun _ => none) (fun _ => .inl rfl) (.inr ⟨_, vs.toArray, _, hk, rfl, rfl, rfl, by rw [List.size_toArray, lenV]; exact hl, by simpa using rv⟩) (fun b u z => by have z' : (none : Option HO) = some u := z; cases z') (fun b z => absurd rfl z) fun z => absurd rfl z
  | none =>
    refine core (fun b => if b = a then some (.frz { cls := .type "list", data := .seq vs.toArray } (.lst (ns.map V.int))) else none) (fun b => ?_) (.inl (.inr ⟨{ cls := .type "list", data := .seq vs.toArray }, if_pos rfl⟩)) (fun b u z => ?_) (fun b z => ?_) fun _ => hk
    · by_cases hb : b = a
      · exact .inr ⟨_, _, if_pos hb⟩
      · exact .inl (if_neg hb)
    · by_cases hb : b = a
      · have z' := (if_pos hb).symm.trans z
        cases z'
        subst hb
        exact ⟨ha, by rw [List.length_map]; exact hl, vs, _, rv, ha⟩
      · have z' := (if_neg hb).symm.trans z
        cases z'
    · by_cases hb : b = a
      · exact hb
      · exact absurd (if_neg hb) z
end L2

namespace L2
open PySem PySem.Spec PyProof.Rows

theorem walk_of {l : PySem.W.OpenLaw} {n k : Nat} {q : Program} {loose : List Str} {XP : (Str → Option Value) → Heap → Prop} {YP : World → Heap → Prop} {d : DefRec} {K : Params → PySem.W.Frag} {CX : World → CXT} {sp : World → Sp} {x : Str}
    (hn : l.most = some n) (hn2 : n ≤ sizeLine) (hdf : d.params.defaults = []) (hr : Room k callerA)
    (hY : ∀ (w : World) (h : Heap), YP w h → (K w.params).In h)
    (F : ∀ (w : World) (mg : Str → Option Value) (fa : Addr) (h : Heap), (K w.params).In h → h.Ns mainGlobals mg → mg d.name = some (.ref fa) →
      ∃ fd : FuncData, (∀ (s : Shared) (u : Value), BindsTo s fd ⟨[u], []⟩ [(x, u)]) ∧
        ∀ base : Heap, (K w.params).In base → base.Ns mainGlobals mg → FnOk l.prog w (K w.params) mg base (CX w) k fa fd [x] (sp w))
    (hsp : ∀ (w : World) (H : Hp) (a : Addr) (ns : List Int), ns.length ≤ n → Only H → SqL (K w.params) H a (ns.map V.int) → sp w [.ref a] H (fun v _ => v = .bl true) fun _ _ _ => False)
    (hCX : ∀ (w : World) (H : Hp) (s : Shared) (e : Value) (s' : Shared), CX w [] H s (fun _ _ _ => False) e s' → False) :
    PySem.W.WalkO q loose XP YP l.row.toRowW d [] (fun f vs => PySem.call f vs) := by
  refine Att.attach_call hn hdf fun w s₀ s₁ mg mb fa o pm cd doc a vs ns G Y ho hd hcd hmg hobj hints hlen hg => ?_
  have KX := hY w _ Y
  obtain ⟨fd, hb, hF⟩ := F w mg fa _ KX G.T.g hmg
  exact law_call KX G.T.g G.T.b G.T.builtins G.T.nolimit hg hobj hints (Nat.le_trans hlen hn2) hr hF hb (fun H hO hS => hsp w H a ns hlen hO hS) fun H e s' => hCX w H s₁ e s'
end L2

namespace L2
open PySem PySem.Spec PyProof.Rows

def defArgs (s : Stmt) : Arguments := match s with
  | .FunctionDef _ a _ _ _ _ _ _ _ _ => a
  | _ => { posonlyargs := [], args := [], vararg := none, kwonlyargs := [], kw_defaults := [], kwarg := none, defaults := [] }
def defBody (s : Stmt) : List Stmt := match s with
  | .FunctionDef _ _ b _ _ _ _ _ _ _ => b
  | _ => []
def defScope (s : Stmt) : Scope := match s with
  | .FunctionDef _ _ _ _ _ _ sc _ _ _ => sc
  | _ => { kind := .function, names := [], isGenerator := false, isCoroutine := false }

abbrev CX0 : CXT := fun _ _ _ _ _ _ => False
abbrev E0 : St → XK := fun _ _ _ _ => False
structure Fun (K : PySem.W.Frag) (x qual : Str) (st : Stmt) (f : Addr) (fd : FuncData) : Prop where
  ex : ∃ (oc : Value) (od : Option Addr) (kV doc pm : Value) (an : Option Addr) (cdv ct : Value) (osl : Array (Option Value)),
    fd = PySem.W.fnOf x qual (defArgs st) (defBody st) (defScope st) .none kV doc pm an cdv ct ∧ K.lookup f = some ⟨oc, od, .func fd, osl⟩ ∧ PySem.W.codeIn K cdv qual = true
  kp : PySem.W.keepIn K (.ref f) = true
section
variable {P : Program} {w : World} {K : PySem.W.Frag} {mg : Str → Option Value} {base : Heap}
theorem Fun.ok {x qual : Str} {st : Stmt} {f : Addr} {fd : FuncData} {N ps : List Str} {k : Nat} {sp : Sp} (F : Fun K x qual st f fd) (S : FnScope N ps (defScope st)) (len : ∀ vs H Q E, sp vs H Q E → vs.length = ps.length)
    (hbody : ∀ (cdv : Value) (A : Around) (outer : List Env) (s : Shared) (H : Hp) (vs : List V) (Q : VK) (E : XK), Room k (A.deeper (envOfC qual (defScope st) s.heap.objs.size f cdv)) → sp vs H Q E →
      ∃ t, PSs (cxOf CX0 P w K mg base N qual (defScope st) f cdv A outer s H E).nox (defBody st) t ∧ t { nx := fun _ H' => Q .non H', rt := Q } (start N vs) H) : FnOk P w K mg base CX0 (k + 1) f fd ps sp := by
  obtain ⟨oc, od, kV, doc, pm, an, cdv, ct, osl, rfl, lk, hcd⟩ := F.ex
  refine fn_of lk hcd S len fun A outer s H vs Q E hr hsp => ?_
  obtain ⟨t, h, q⟩ := hbody cdv A outer s H vs Q E hr hsp
  exact ⟨t, h.nox, q⟩
theorem Fun.binds {x qual : Str} {st : Stmt} {f : Addr} {fd : FuncData} {ps : List Str} (F : Fun K x qual st f fd)
    (h : ∀ (kV doc pm : Value) (an : Option Addr) (cdv ct : Value) (us : List Value), us.length = ps.length → bindArgs (PySem.W.fnOf x qual (defArgs st) (defBody st) (defScope st) .none kV doc pm an cdv ct) ⟨us, []⟩ = pure (ps.zip us)) : Binds K fd ps [] := by
  obtain ⟨oc, od, kV, doc, pm, an, cdv, ct, osl, rfl, lk, hcd⟩ := F.ex
  exact .all (h kV doc pm an cdv ct)
theorem fun_mk {x qual : Str} {st : Stmt} {f : Addr} {oc : Value} {od an : Option Addr} {osl : Array (Option Value)} {kV doc pm cdv ct : Value} (l : K.lookup f = some ⟨oc, od, .func (PySem.W.fnOf x qual (defArgs st) (defBody st) (defScope st) .none kV doc pm an cdv ct), osl⟩)
    (c : PySem.W.codeIn K cdv qual = true) (k : PySem.W.keepIn K (.ref f) = true) : Fun K x qual st f (PySem.W.fnOf x qual (defArgs st) (defBody st) (defScope st) .none kV doc pm an cdv ct) := ⟨⟨oc, od, kV, doc, pm, an, cdv, ct, osl, rfl, l, c⟩, k⟩
end
theorem hu_of {A : Around} {k : Nat} (hr : Room k A) : A.units + 1 < cLine := Nat.lt_of_le_of_lt (Nat.add_le_add_left (by decide : 1 ≤ 64) _) hr.units
section
variable {X : Cx}
end

def Same (H H' : Hp) : Prop := ∀ b o, H b = some o → H' b = some o
theorem Same.refl (H : Hp) : Same H H := fun _ _ h => h
theorem Same.trans {H H1 H2 : Hp} (a : Same H H1) (b : Same H1 H2) : Same H H2 := fun c o h => b c o (a c o h)
theorem Same.free {H H' : Hp} (e : Same H H') {l : Addr} (h : H' l = Option.none) : H l = Option.none := by
  cases q : H l with
  | none => rfl
  | some o =>
    rw [e l o q] at h
    cases h
theorem Same.seq {K : PySem.W.Frag} {H H' : Hp} {a : Addr} {xs : List V} (e : Same H H') (h : SqL K H a xs) : SqL K H' a xs := by
  rcases h with (h | ⟨o, h⟩) | h
  · exact .inl (.inl (e _ _ h))
  · exact .inl (.inr ⟨o, e _ _ h⟩)
  · exact .inr h

end L2

namespace L2
open PySem PySem.Spec PyProof.Rows
section
variable {κ : Type} [DecidableEq κ]
end
end L2
namespace L2
open PySem PySem.Spec PyProof.Rows
structure RoomN (k : Nat) (A : Around) : Prop where
  dp : A.depth + 3 * k + 5 < recursionLimit
  un : A.units + 16 * k + 200 < cLine
theorem RoomN.mono {j k : Nat} {A : Around} (r : RoomN k A) (h : j ≤ k) : RoomN j A := ⟨by have := r.dp; omega, by have := r.un; omega⟩
theorem RoomN.deeper {k : Nat} {A : Around} (r : RoomN (k + 1) A) (env : Env) : RoomN k (A.deeper env) := ⟨by have := r.dp; show A.depth + 1 + 3 * k + 5 < _; omega, by have := r.un; show A.units + 3 + 16 * k + 200 < _; omega⟩
theorem RoomN.depth {k : Nat} {A : Around} (r : RoomN k A) : A.depth < recursionLimit := by have := r.dp; omega
theorem RoomN.units0 {k : Nat} {A : Around} (r : RoomN k A) : A.units < cLine := by have := r.un; omega
theorem Room.n {k : Nat} {A : Around} (r : Room k A) : RoomN k A := ⟨r.dp, r.un⟩
structure FnOkN (P : Program) (w : World) (K : PySem.W.Frag) (mg : Str → Option Value) (base : Heap) (CX : CXT) (k : Nat) (f : Addr) (fd : FuncData) (ps : List Str) (sp : Sp) : Prop where
  len : ∀ vs H Q E, sp vs H Q E → vs.length = ps.length
  run : ∀ (A : Around) (outer : List Env) (s : Shared) (H : Hp) (args : Args) (us : List Value) (vs : List V) (Q : VK) (E : XK), RoomN k A → Env0 P w K mg base A outer s H → BindsTo s fd args (ps.zip us) → Vals vs us → sp vs H Q E →
    codeAny (model P w) A (.call (.ref f) args) (CR CX outer P w H s Q E) s
section
variable {X : Cx} {CX : CXT} {k : Nat} {f C : Addr} {fd : FuncData} {ps : List Str} {sp : Sp} {dvs : List V} {ds : List Value} {E : St → XK} {x m : Str} {p pos apos : Pos} {e o : Expr} {es : List Expr} {ta : TE} {t : TA}
end
end L2
set_option Elab.async false
set_option linter.all false
set_option maxRecDepth 100000
set_option maxHeartbeats 4000000
set_option exponentiation.threshold 2000
namespace Mk
def cop (m n : Int) : Bool := decide (Int.gcd n m = 1)
def dif (ws : List Int) : List Int := (ws.zip (ws.drop 1)).map fun p => p.2 - p.1
def safe (m : Int) (ws : List Int) : Bool := (ws ++ dif ws).all (cop m)
def big : Int := 314159265358979323846264338327950288419716939937510582097494
def ofN (n : Nat) : List Int := (List.range n).map fun (k : Nat) => (k : Int)
def cand (m : Int) (found : List Int) : List Int := (ofN m.toNat).filter fun w => cop m w && (found.isEmpty || cop m (w - found.getLastD 0))
def pool (m : Int) (found : List Int) : List Int := if cand m found = [] then ofN m.toNat else cand m found
def wtsGo (m : Int) : Nat → Int → List Int → List Int
  | 0, _, found => found
  | n + 1, c, found => wtsGo m n (c / 7) (found ++ [(pool m found).getD (c % ((pool m found).length : Int)).toNat 0])
def wts (c m : Int) (n : Nat) : List Int := wtsGo m n c []
def digs (m : Int) : Nat → Int → List Int
  | 0, _ => []
  | n + 1, c => c % m :: digs m n (c / 31)
def w1 (n m : Int) : List Int := wts (n / 100) m (3 + n % 6).toNat
def w2 (n m : Int) : List Int := if n / 6 % 4 = 1 then (w1 n m).set (n / 24 % ((w1 n m).length : Int)).toNat (n / 200 % m) else w1 n m
def w3 (n m : Int) : List Int := if n / 6 % 4 = 2 then digs m (w2 n m).length (n / 100) else w2 n m
def altAt (k : Nat) : Int := if k % 2 = 0 then 1 else 2
def alt (n : Nat) : List Int := (List.range n).map altAt
def fits (m : Int) (ws : List Int) : List Int := (ofN m.toNat).filter fun w => safe m (ws.drop (ws.length - 1) ++ [w])
end Mk

namespace Mk
def dot : List Int → List Int → Int
  | a :: r, b :: t => a * b + dot r t
  | _, _ => 0
def good (m : Int) (ws : List Int) (r : Int) (ps : List Int) : Bool := decide ((dot ws ps - r) % m = 0)
end Mk

namespace Mk
end Mk

namespace Mk
section
variable {m r k : Int} {ws : List Int} (h0 : 0 < m) (h26 : m ≤ 26) (hm : ∀ x ∈ ws, 0 ≤ x ∧ x < m) (hs : safe m ws = true) (hl : 1 ≤ ws.length)
include h0 h26 hm hs hl
omit h26 hm hs hl in
end
end Mk

namespace L2
open PySem PySem.Spec PyProof.Rows
def clo (cells : List (Str × Addr)) : List (Str × NameKind) → List (Str × Addr) → Option (List (Str × Addr))
  | [], acc => some acc
  | (n, k) :: r, acc => if k == .free then (match cells.lookup n with | some c => clo cells r ((n, c) :: acc) | none => none) else clo cells r acc
theorem clo_pure {env : Env} : ∀ (names : List (Str × NameKind)) (acc cl : List (Str × Addr)), clo env.cells names acc = some cl →
    (forIn names acc fun (x : Str × NameKind) (cs : List (Str × Addr)) => (if x.2 == .free then do let c ← cellOf env x.1; pure (ForInStep.yield ((x.1, c) :: cs)) else pure (ForInStep.yield cs) : Sem (ForInStep (List (Str × Addr))))) = pure cl
  | [], acc, cl, h => by
    have e : acc = cl := Option.some.inj h
    subst e; rfl
  | (n, k) :: r, acc, cl, h => by
    rw [List.forIn_cons]
    unfold clo at h
    by_cases hk : (k == NameKind.free) = true
    · rw [if_pos hk] at h
      cases hc : env.cells.lookup n with
      | none => rw [hc] at h; cases h
      | some c =>
        rw [hc] at h
        have ih := clo_pure (env := env) r ((n, c) :: acc) cl h
        have e1 : cellOf env n = pure c := by unfold cellOf; rw [hc]
        simp only [hk, if_true, e1, pure_bind]
        exact ih
    · rw [if_neg hk] at h
      have ih := clo_pure (env := env) r acc cl h
      simp only [hk, if_false, pure_bind, Bool.false_eq_true]
      exact ih
theorem closureFor_clo {scope : Scope} {env : Env} {cl : List (Str × Addr)} (h : clo env.cells scope.names [] = some cl) : closureFor scope env = pure cl := by
  have e := clo_pure (env := env) scope.names [] cl h
  unfold closureFor
  simp only [bind_pure]
  first
    | exact e
    | (simp only [bind_pure_comp, map_pure] at e ⊢; exact e)
    | (rw [show (fun (x : Str × NameKind) (r : List (Str × Addr)) => _) = _ from rfl]; exact e)
theorem clo_sub {cells : List (Str × Addr)} : ∀ (names : List (Str × NameKind)) (acc cl : List (Str × Addr)), clo cells names acc = some cl →
    (∀ x c, acc.lookup x = some c → cells.lookup x = some c) → ∀ x c, cl.lookup x = some c → cells.lookup x = some c
  | [], acc, cl, h, ha => by
    have e : acc = cl := Option.some.inj h
    subst e; exact ha
  | (n, k) :: r, acc, cl, h, ha => by
    unfold clo at h
    by_cases hk : (k == NameKind.free) = true
    · rw [if_pos hk] at h
      cases hc : cells.lookup n with
      | none => rw [hc] at h; cases h
      | some c =>
        rw [hc] at h
        refine clo_sub r ((n, c) :: acc) cl h fun x c' e => ?_
        rw [List.lookup_cons] at e
        by_cases hx : (x == n) = true
        · rw [hx] at e
          have e' : c = c' := Option.some.inj e
          subst e'
          have : x = n := eq_of_beq hx
          subst this; exact hc
        · rw [Bool.not_eq_true] at hx
          rw [hx] at e
          exact ha x c' e
    · rw [if_neg hk] at h
      exact clo_sub r acc cl h ha
theorem clo_keep {cells : List (Str × Addr)} : ∀ (names : List (Str × NameKind)) (acc cl : List (Str × Addr)), clo cells names acc = some cl → ∀ x, (∃ c, acc.lookup x = some c) → ∃ c, cl.lookup x = some c
  | [], acc, cl, h, x, hx => by
    have e : acc = cl := Option.some.inj h
    subst e; exact hx
  | (n, k) :: r, acc, cl, h, x, hx => by
    unfold clo at h
    by_cases hk : (k == NameKind.free) = true
    · rw [if_pos hk] at h
      cases hc : cells.lookup n with
      | none => rw [hc] at h; cases h
      | some c =>
        rw [hc] at h
        refine clo_keep r ((n, c) :: acc) cl h x ?_
        rw [List.lookup_cons]
        by_cases hxn : (x == n) = true
        · rw [hxn]; exact ⟨c, rfl⟩
        · rw [Bool.not_eq_true] at hxn
          rw [hxn]; exact hx
    · rw [if_neg hk] at h
      exact clo_keep r acc cl h x hx
theorem clo_has {cells : List (Str × Addr)} : ∀ (names : List (Str × NameKind)) (acc cl : List (Str × Addr)), clo cells names acc = some cl → ∀ x, (x, NameKind.free) ∈ names → ∃ c, cl.lookup x = some c
  | [], _, _, _, x, hx => by cases hx
  | (n, k) :: r, acc, cl, h, x, hx => by
    unfold clo at h
    by_cases hk : (k == NameKind.free) = true
    · rw [if_pos hk] at h
      cases hc : cells.lookup n with
      | none => rw [hc] at h; cases h
      | some c =>
        rw [hc] at h
        rcases List.mem_cons.mp hx with e | hx
        · have e1 : x = n := congrArg Prod.fst e
          subst e1
          exact clo_keep r ((x, c) :: acc) cl h x ⟨c, by rw [List.lookup_cons, beq_self_eq_true]⟩
        · exact clo_has r _ cl h x hx
    · rw [if_neg hk] at h
      rcases List.mem_cons.mp hx with e | hx
      · cases e
        exact absurd (by rfl) hk
      · exact clo_has r acc cl h x hx
theorem relabel_kind {env : Env} : ∀ {names : List (Str × NameKind)} {x : Str} {k' : NameKind},
    (names.map fun (n, k) => if (k == NameKind.free && env.scope.kind == .function && env.kindOf n == some .cell) then (n, NameKind.cell) else (n, k)).lookup x = some k' → (x, k') ∈ names ∨ (k' = .cell ∧ (x, NameKind.free) ∈ names)
  | [], _, _, h => by cases h
  | (n, k) :: r, x, k', h => by
    have ih := @relabel_kind env r x k'
    by_cases hc : (k == NameKind.free && env.scope.kind == .function && env.kindOf n == some .cell) = true
    · have h2 : (((n, NameKind.cell) :: (r.map fun (n, k) => if (k == NameKind.free && env.scope.kind == .function && env.kindOf n == some .cell) then (n, NameKind.cell) else (n, k))).lookup x) = some k' := by
        rw [← h, List.map_cons]; simp only [hc, if_true]
      rw [List.lookup_cons] at h2
      by_cases hx : (x == n) = true
      · rw [hx] at h2
        have e : NameKind.cell = k' := Option.some.inj h2
        have e2 : x = n := eq_of_beq hx
        have e3 : k = .free := by
          simp only [Bool.and_eq_true] at hc
          exact eq_of_beq hc.1.1
        subst e e2 e3
        exact .inr ⟨rfl, List.mem_cons_self⟩
      · rw [Bool.not_eq_true] at hx
        rw [hx] at h2
        rcases ih h2 with q | ⟨e, q⟩
        · exact .inl (List.mem_cons_of_mem _ q)
        · exact .inr ⟨e, List.mem_cons_of_mem _ q⟩
    · have h2 : (((n, k) :: (r.map fun (n, k) => if (k == NameKind.free && env.scope.kind == .function && env.kindOf n == some .cell) then (n, NameKind.cell) else (n, k))).lookup x) = some k' := by
        rw [← h, List.map_cons]; simp only [hc, if_false, Bool.false_eq_true]
      rw [List.lookup_cons] at h2
      by_cases hx : (x == n) = true
      · rw [hx] at h2
        have e : k = k' := Option.some.inj h2
        have e2 : x = n := eq_of_beq hx
        subst e e2
        exact .inl List.mem_cons_self
      · rw [Bool.not_eq_true] at hx
        rw [hx] at h2
        rcases ih h2 with q | ⟨e, q⟩
        · exact .inl (List.mem_cons_of_mem _ q)
        · exact .inr ⟨e, List.mem_cons_of_mem _ q⟩
abbrev Cx.blk (X : Cx) (N' : List Str) (scope : Scope) (cl : List (Str × Addr)) (C : Addr) (s₀ : Shared) (H₀ : Hp) (ex : List Addr) : Cx :=
  { X with N := N', s₀ := s₀, H₀ := H₀, env := compEnvC scope cl C X.env, outer := X.stack, stack := X.stack, ex := ex, fn := fun _ => false, pn := [], xe := fun _ _ => False }
inductive FrOk (X : Cx) : List Str → List Nat → Prop
  | nil : FrOk X [] []
  | cons {x : Str} {j : Nat} {xs : List Str} {js : List Nat} : X.N[j]? = some x → (X.env.kindOf x = some .cell ∨ X.env.kindOf x = some .free) → FrOk X xs js → FrOk X (x :: xs) (j :: js)
theorem FrOk.get {X : Cx} : ∀ {xs : List Str} {js : List Nat} {i : Nat} {x : Str}, FrOk X xs js → xs[i]? = some x → ∃ j, js[i]? = some j ∧ X.N[j]? = some x ∧ (X.env.kindOf x = some .cell ∨ X.env.kindOf x = some .free)
  | _, _, _, _, .nil, e => by simp at e
  | _, _, 0, _, .cons a b _, e => by simp at e; subst e; exact ⟨_, rfl, a, b⟩
  | _, _, i + 1, x, .cons _ _ t, e => by
    obtain ⟨j, h1, h2⟩ := FrOk.get (i := i) (x := x) t (by simpa using e)
    exact ⟨j, by simpa using h1, h2⟩
theorem FrOk.len {X : Cx} : ∀ {xs : List Str} {js : List Nat}, FrOk X xs js → xs.length = js.length
  | _, _, .nil => rfl
  | _, _, .cons _ _ t => by rw [List.length_cons, List.length_cons, t.len]
def blkSt (k : Nat) (js : List Nat) (σ : St) : St := List.replicate k none ++ js.map fun j => (σ[j]?).join
def PIf (X : Cx) (ifs : List Expr) (t : TT) : Prop :=
  ∀ (pins : List (Addr × Obj)) (s : Shared) (σ : St) (H : Hp) (Q : Bool → Hp → Prop), Inv X pins σ H s → t σ H Q →
    wpAny (model X.prog X.w) X.A (forIn ifs true fun c r => if r = true then do let ok ← isTrue c X.env (eval c X.env); pure (ForInStep.yield ok) else pure (ForInStep.yield r)) (TP X pins σ Q) X.xe s
def tYes : TT := fun _ H Q => Q true H
theorem pif_nil {X : Cx} : PIf X [] tYes := fun _ _ _ H _ I h => wpAny_tests_nil ⟨H, I, h⟩
section
variable {prog : Program} {w : World} {A : Around} {R : Result → Shared → Prop} {s : Shared}
theorem compLoop_go {elt target iter : Expr} {ifs : List Expr} {scope : Scope} {pos : Pos} {it acc : Value} {env : Env} (I : Nat → Shared → Prop)
    (turn : ∀ n s, I n s → wpAny (model prog w) A (pyNext it) (fun r s₁ => match r with
      | none => R (.ok .next) s₁
      | some v => wpAny (model prog w) A (letOwnedTupleGo target it v) (fun _ s₀ => wpAny (model prog w) A (assign target env v) (fun _ s₂ =>
          wpAny (model prog w) A (forIn ifs true fun c r => if r = true then do let ok ← isTrue c env (eval c env); pure (ForInStep.yield ok) else pure (ForInStep.yield r)) (fun ok s₃ =>
            if ok = true then wpAny (model prog w) A (eval elt env) (fun x s₄ =>
              wpAny (model prog w) A (call (.builtin "list.append") [acc, x]) (fun _ s₅ => ∃ m, m < n ∧ I m s₅) (fun _ _ => False) s₄) (fun _ _ => False) s₃
            else ∃ m, m < n ∧ I m s₃) (fun _ _ => False) s₂) (fun _ _ => False) s₀) (fun _ _ => False) s₁) (fun _ _ => False) s)
    (n : Nat) (h : I n s) :
    codeAny (model prog w) A (.compLoop (.ListComp elt [⟨target, iter, ifs, 0⟩] scope pos) 0 it acc env) R s := by
  refine codeAny_loop rfl I (fun n s hI => ?_) n h
  show wpAny _ A ((compTurn (.ListComp elt [⟨target, iter, ifs, 0⟩] scope pos) 0 it acc env).onRaise (fun x => do noteFrame x env; theTreesLotGoes x)) _ _ s
  refine wpAny_noted ?_
  rw [compTurn_list]
  refine wpAny_bind (wpAny_standAt (wpAny_bind (wpAny_mono (turn n s hI) (fun r s₁ h₁ => ?_) fun _ _ h' => h'.elim)))
  cases r with
  | none => exact wpAny_pure h₁
  | some v =>
    refine wpAny_bind (wpAny_mono h₁ (fun _ s₀ h₀ => ?_) fun _ _ h' => h'.elim)
    refine wpAny_bind (wpAny_mono h₀ (fun _ s₂ h₂ => wpAny_bind (wpAny_mono h₂ (fun ok s₃ h₃ => ?_) fun _ _ h' => h'.elim)) fun _ _ h' => h'.elim)
    cases ok with
    | false => exact wpAny_pure ⟨rfl, h₃⟩
    | true =>
      exact wpAny_bind (wpAny_bind (wpAny_mono h₃ (fun x s₄ h₄ => wpAny_bind (wpAny_mono h₄ (fun _ s₅ h₅ => wpAny_pure (wpAny_pure ⟨rfl, h₅⟩)) fun _ _ h' => h'.elim)) fun _ _ h' => h'.elim))
end
def LcTurns (g : TG) (tc : TT) (te : TE) (σ' : St) (J : It) (H1 : Hp) (Q : VK) : Prop :=
  ∀ D, H1 D = none → ∃ W : Nat → Nat → List V → St → Hp → Prop, (∃ m, W 0 m [] σ' (upd H1 D (.lst []))) ∧ ∀ i m ys σ1 H, W i m ys σ1 H → H D = some (.lst ys) ∧ ys.length < sizeLine ∧
    ((J.stop i H ∧ Q (.ref D) H) ∨ (J.go i H ∧ ∀ x H', J.yld i H x H' → g x σ1 H' fun σ2 H2 => tc σ2 H2 fun b H3 =>
      if b = true then te σ2 H3 fun v H4 => H4 D = some (.lst ys) ∧ ∃ m', m' < m ∧ W (i + 1) m' (ys ++ [v]) σ2 (upd H4 D (.lst (ys ++ [v]))) else ∃ m', m' < m ∧ W (i + 1) m' ys σ2 H3))
structure BlkOk (X : Cx) (scope : Scope) (cl : List (Str × Addr)) : Prop where
  clo : L2.clo X.env.cells scope.names [] = some cl
  cell : ∀ y ∈ scope.names, y.2 ≠ .cell
  kind : scope.kind = .function
  names : ∀ y ∈ scope.names, y.2 = .local → scope.names.lookup y.1 = some .local
section
variable {X : Cx} {pins : List (Addr × Obj)} {σ : St} {H1 : Hp} {s₂ : Shared} {E : Value → Shared → Prop}
theorem Inv.blkOk {scope : Scope} {cl : List (Str × Addr)} {N' : List Str} {C : Addr} {fp : List Addr} (I : Inv X pins σ H1 s₂) (B : BlkOk X scope cl) (hC : s₂.heap.objs.size ≤ C) (hf : ∀ b ∈ fp, FpOk X pins H1 b)
    (ho : ∀ b ∈ fp, ∃ o, s₂.heap.get? b = some o) : (X.blk N' scope cl C s₂ H1 fp).Ok := by
  have sub := clo_sub scope.names [] cl B.clo (fun x c e => by cases e)
  refine ⟨I.ok.mod, B.kind, I.ok.glob, I.ok.blt, hC, fun x y c h1 h2 => I.ok.inj x y c (sub x c h1) (sub y c h2), fun x hx => ?_, fun x c h => ?_, I.ok.hd, I.ok.frames, .inl rfl, fun b hb => ⟨?_, fun x c e => ?_⟩, I.bs,
    Nat.le_trans I.ok.bsz I.sz, fun b o e hb => ?_, fun b hb hs => ?_, I.stack, I.stkFree⟩
  · have hx' : (compEnvC scope cl C X.env).kindOf x = some .cell ∨ (compEnvC scope cl C X.env).kindOf x = some .free := hx
    have key : ∀ k', (compEnvC scope cl C X.env).kindOf x = some k' → (k' = .cell ∨ k' = .free) → ∃ c, cl.lookup x = some c := fun k' e hk => by
      have e' : (scope.names.map fun (n, k) => if (k == NameKind.free && X.env.scope.kind == .function && X.env.kindOf n == some .cell) then (n, NameKind.cell) else (n, k)).lookup x = some k' := e
      rcases relabel_kind e' with q | ⟨_, q⟩
      · rcases hk with rfl | rfl
        · exact absurd rfl (B.cell _ q)
        · exact clo_has scope.names [] cl B.clo x q
      · exact clo_has scope.names [] cl B.clo x q
    rcases hx' with hx' | hx'
    · exact key _ hx' (.inl rfl)
    · exact key _ hx' (.inr rfl)
  · exact absurd h Bool.false_ne_true
  · obtain ⟨o, e⟩ := ho b hb
    exact Nat.ne_of_lt (Nat.lt_of_lt_of_le (Heap.lt_size e) hC)
  · exact (hf b hb).2.2.2.2.1 x c (sub x c e)
  · rcases (hf b hb).2.2.2.1 with z | z
    · exact I.ok.noex b o e z
    · exact absurd (Nat.lt_of_lt_of_le (Heap.lt_size e) (Nat.le_trans I.ok.bsz z)) (Nat.lt_irrefl _)
  · rcases List.mem_cons.mp (I.stkSub b hs) with z | z
    · exact (hf b hb).2.1 z
    · exact (hf b hb).2.2.1 z
theorem blk_run {elt target iter : Expr} {ifs : List Expr} {scope : Scope} {pos : Pos} {cl : List (Str × Addr)} {own frn : List Str} {js : List Nat} {g : TG} {tc : TT} {te : TE} {Q : VK} {it : Addr} {fp : List Addr} {tn : Nat → Heap → Prop} {J : It}
    {RR : Value → Addr → Result → Shared → Prop} (hc : X.calm = true) (B : BlkOk X scope cl) (hfr : FrOk X frn js) (hloc : ∀ x ∈ frn, scope.names.lookup x ≠ some .local)
    (hg : ∀ C s₀ H₀ ex, PG (X.blk (own ++ frn) scope cl C s₀ H₀ ex) target g) (hi : ∀ C s₀ H₀ ex, PIf (X.blk (own ++ frn) scope cl C s₀ H₀ ex) ifs tc) (he : ∀ C s₀ H₀ ex, PE (X.blk (own ++ frn) scope cl C s₀ H₀ ex) elt te)
    (I : Inv X pins σ H1 s₂) (T : Turn X.prog X.w X.K target J fp it tn) (st0 : tn 0 s₂.heap) (hf : ∀ b ∈ fp, FpOk X pins H1 b) (hq : LcTurns g tc te (blkSt own.length js σ) J H1 Q)
    (fin : ∀ D C s' H' m, s₂.heap.objs.size ≤ C → Inv X pins σ H' s' → s'.heap.Ns C m → FpOk X pins H' C → Q (.ref D) H' → RR (.ref D) C (.ok .next) s') :
    wpAny (model X.prog X.w) X.A (newList []) (fun acc s₃ => wpAny (model X.prog X.w) X.A (newFunctionEnv scope X.env.globals cl [] X.env.qual none .none (some X.env)) (fun cenv s₄ =>
      codeAny (model X.prog X.w) X.A (.compStart (.ListComp elt [⟨target, iter, ifs, 0⟩] scope pos) 0 (.ref it) acc { cenv with scope := relabel scope X.env }) (RR acc cenv.locals) s₄) E s₃) E s₂ := by
  have sub := clo_sub scope.names [] cl B.clo (fun x c e => by cases e)
  refine wpAny_newObj_type (wpAny_newFunctionEnv B.cell (by intro y hy; simp at hy) (fun h₁ hns₁ hsb₁ => ?_) B.kind)
  dsimp only at hns₁ hsb₁ ⊢
  generalize hH2 : s₂.heap.push { cls := .type "list", dict := none, data := .seq ([] : List Value).toArray } = H2 at hns₁ hsb₁ ⊢
  have hC : H2.objs.size = s₂.heap.objs.size + 1 := by rw [← hH2, Heap.size_push]
  have hDC : s₂.heap.objs.size ≠ H2.objs.size := by rw [hC]; exact Nat.ne_of_lt (Nat.lt_succ_self _)
  have hCle : s₂.heap.objs.size ≤ H2.objs.size := by rw [hC]; exact Nat.le_succ _
  have below : ∀ b, b < s₂.heap.objs.size → b ≠ H2.objs.size ∧ b ≠ s₂.heap.objs.size := fun b hb => ⟨by rw [hC]; exact Nat.ne_of_lt (Nat.lt_succ_of_lt hb), Nat.ne_of_lt hb⟩
  have old : ∀ b o, s₂.heap.get? b = some o → h₁.get? b = some o := fun b o e => hsb₁.extBut b o (below b (Heap.lt_size e)).1 (Heap.get?_push_of_some _ (hH2 ▸ Heap.get?_push_of_some _ e))
  have hacc : h₁.get? s₂.heap.objs.size = some { cls := .type "list", dict := none, data := .seq ([] : List Value).toArray } := hsb₁.extBut _ _ hDC (Heap.get?_push_of_some _ (hH2 ▸ Heap.get?_push_size _ rfl))
  have hfo : ∀ b ∈ fp, ∃ o, s₂.heap.get? b = some o ∧ ∀ v, o.data ≠ .cell v := T.obj 0 _ st0
  have D0 : H1 s₂.heap.objs.size = none := I.hok.fresh (Nat.le_refl _)
  have C0 : H1 H2.objs.size = none := I.hok.fresh hCle
  obtain ⟨W, ⟨m0, w0⟩, turn⟩ := hq _ D0
  have okX : (X.blk (own ++ frn) scope cl H2.objs.size s₂ H1 fp).Ok := I.blkOk (N' := own ++ frn) B hCle hf fun b hb => let ⟨o, e, _⟩ := hfo b hb; ⟨o, e⟩
  have I0 : Inv (X.blk (own ++ frn) scope cl H2.objs.size s₂ H1 fp) [] (blkSt own.length js σ) (upd H1 s₂.heap.objs.size (.lst [])) { s₂ with heap := h₁, toks := s₂.toks + ([] : List (Str × Value)).length } := by
    obtain ⟨m, hn, hl⟩ := id I.loc
    refine ⟨okX, rfl, I.bare, Un.laid old (Nat.le_refl _) D0, ⟨_, hns₁, fun i x v e1 e2 e3 => ?_⟩, fun x c e => ?_, ?_, fun x c e => ?_, fun p hp => ?_, ?_, ?_⟩
    · have e1 : (own ++ frn)[i]? = some x := e1
      unfold blkSt at e2
      by_cases hik : i < own.length
      · rw [List.getElem?_append_left (by simpa using hik), List.getElem?_replicate, if_pos hik] at e2
        cases e2
      · rw [List.getElem?_append_right (by simpa using hik), List.length_replicate, List.getElem?_map] at e2
        rw [List.getElem?_append_right (by omega)] at e1
        obtain ⟨j, hj, hNj, hk⟩ := hfr.get e1
        rw [hj] at e2
        have e2' : (σ[j]?).join = some v := Option.some.inj e2
        have e2'' : σ[j]? = some (some v) := by
          cases q : σ[j]? with
          | none => rw [q] at e2'; cases e2'
          | some o => rw [q] at e2'; cases o with
            | none => cases e2'
            | some y => have : y = v := Option.some.inj e2'; rw [this]
        obtain ⟨u, r, lk⟩ := hl j x v hNj e2'' (hk.elim (fun z => .inr (.inl z)) fun z => .inr (.inr z))
        refine ⟨u, r, ?_⟩
        rcases lk with ⟨k1, _⟩ | ⟨_, c, hcl, hcell⟩
        · rcases hk with z | z <;> (rw [k1] at z; cases z)
        · have hx3 : (compEnvC scope cl H2.objs.size X.env).kindOf x = some .local ∨ (compEnvC scope cl H2.objs.size X.env).kindOf x = some .cell ∨ (compEnvC scope cl H2.objs.size X.env).kindOf x = some .free := e3
          rcases hx3 with z | z
          · exfalso
            have z' : (scope.names.map fun (n, k) => if (k == NameKind.free && X.env.scope.kind == .function && X.env.kindOf n == some .cell) then (n, NameKind.cell) else (n, k)).lookup x = some .local := z
            rcases relabel_kind z' with q | ⟨q, _⟩
            · exact hloc x (List.mem_of_getElem? e1) (B.names _ q rfl)
            · cases q
          · obtain ⟨c', hc'⟩ := okX.has x z
            have q := sub x c' hc'
            rw [hcl] at q
            have q' : c = c' := Option.some.inj q
            subst q'
            refine .inr ⟨z, c, hc', ?_⟩
            obtain ⟨o, ho, hd⟩ := hcell
            exact ⟨o, old _ _ ho, hd⟩
    · obtain ⟨v, o, ho, hd⟩ := I.cell x c (sub x c e)
      exact ⟨v, o, old _ _ ho, hd⟩
    · show upd H1 _ _ H2.objs.size = none
      rw [upd_ne (Ne.symm hDC)]; exact C0
    · obtain ⟨v, o, ho, hd⟩ := I.cell x c (sub x c e)
      rw [upd_ne (below c (Heap.lt_size ho)).2]; exact I.freeC x c (sub x c e)
    · cases hp
    · exact I.hok.laid old (Nat.le_refl _) ⟨Nat.zero_le _, [], _, .nil, hacc⟩
    · unfold blkSt
      show _ = (own ++ frn).length
      rw [List.length_append, List.length_append, List.length_replicate, List.length_map, hfr.len]
  -- the iterator's objects in the block
  have fpx : ∀ {H : Hp}, (∀ b ∈ fp, H b = none) → ∀ b ∈ fp, FpOk (X.blk (own ++ frn) scope cl H2.objs.size s₂ H1 fp) [] H b := fun {H} hn b hb => by
    obtain ⟨f0, f1, f2, f3, f4, f5⟩ := hf b hb
    obtain ⟨o, e, _⟩ := hfo b hb
    refine ⟨hn b hb, (below b (Heap.lt_size e)).1, fun z => ?_, .inl hb, fun x c e => f4 x c (sub x c e), fun p hp => by cases hp⟩
    rcases List.mem_cons.mp (I.stkSub b z) with z | z
    · exact f1 z
    · exact f2 z
  have st1 : tn 0 h₁ := T.keep _ _ _ st0 fun b _ o e => old b o e
  have fr0 : ∀ b ∈ fp, upd H1 s₂.heap.objs.size (.lst []) b = none := fun b hb => by
    obtain ⟨o, e, _⟩ := hfo b hb
    rw [upd_ne (below b (Heap.lt_size e)).2]; exact (hf b hb).1
  have loop : codeAny (model X.prog X.w) X.A (.compLoop (.ListComp elt [⟨target, iter, ifs, 0⟩] scope pos) 0 (.ref it) (.ref s₂.heap.objs.size) (compEnvC scope cl H2.objs.size X.env))
      (RR (.ref s₂.heap.objs.size) H2.objs.size) { s₂ with heap := h₁, toks := s₂.toks + ([] : List (Str × Value)).length } := by
    refine compLoop_go (fun n s' => ∃ i ys σ1 H, Inv (X.blk (own ++ frn) scope cl H2.objs.size s₂ H1 fp) [] σ1 H s' ∧ tn i s'.heap ∧ (∀ b ∈ fp, H b = none) ∧ W i n ys σ1 H) ?_ m0 ⟨0, [], _, _, I0, st1, fr0, w0⟩
    rintro n s3 ⟨i, ys, σ3, H3, I3, st3, fr3, w3⟩
    obtain ⟨hD3, hsz, alt⟩ := turn i n ys σ3 H3 w3
    rcases alt with ⟨stop, qn⟩ | ⟨go, step⟩
    · refine thn (T.done (X.blk (own ++ frn) scope cl H2.objs.size s₂ H1 fp) rfl rfl rfl hc i [] s3 σ3 H3 _ I3 (fpx fr3) st3 stop) fun r s4 ⟨hr, I4⟩ => ?_
      subst hr
      obtain ⟨m, hn, _⟩ := id I4.loc
      have hch : ∀ b ∈ fp, (b ∈ X.ex ∨ X.s₀.heap.objs.size ≤ b) ∧ b ≠ X.env.locals ∧ (∀ x c, X.env.cells.lookup x = some c → c ≠ b) ∧ ∀ p ∈ X.pn ++ pins, p.1 ≠ b := fun b hb => by
        obtain ⟨f0, f1, f2, f3, f4, f5⟩ := hf b hb
        exact ⟨f3, f1, f4, f5⟩
      have IX : Inv X pins σ H3 s4 := I.call' I4.os I4.base I4.hok I4.bare hch
      exact fin _ _ s4 H3 m hCle IX hn (I.fpOk hCle I4.free) qn
    · refine thn (T.item (X.blk (own ++ frn) scope cl H2.objs.size s₂ H1 fp) rfl rfl rfl hc i [] s3 σ3 H3 _ I3 (fpx fr3) st3 go) fun r s4 ⟨u, hr, h4⟩ => ?_
      subst hr
      refine thn h4 fun _ s5 ⟨x, H5, I5, r5, y5, st5, fr5⟩ => ?_
      have I5' := I5.pinned (fpx fr5) (T.obj _ _ st5)
      refine thn (hg _ _ _ _ _ s5 σ3 H5 x u _ I5' r5 (step x H5 y5)) fun _ s6 ⟨σ6, H6, I6, q6⟩ => ?_
      refine thn (hi _ _ _ _ _ s6 σ6 H6 _ I6 q6) fun b s7 ⟨H7, I7, q7⟩ => ?_
      have again : ∀ {ys' : List V} {H8 : Hp} {s8 : Shared} {m' : Nat}, Inv (X.blk (own ++ frn) scope cl H2.objs.size s₂ H1 fp) ([] ++ pinsAt fp s5.heap) σ6 H8 s8 → m' < n → W (i + 1) m' ys' σ6 H8 →
          ∃ m, m < n ∧ ∃ i ys σ1 H, Inv (X.blk (own ++ frn) scope cl H2.objs.size s₂ H1 fp) [] σ1 H s8 ∧ tn i s8.heap ∧ (∀ b ∈ fp, H b = none) ∧ W i m ys σ1 H := fun {ys' H8 s8 m'} I8 hm w8 => by
        refine ⟨m', hm, i + 1, ys', σ6, H8, I8.unpinned, T.keep _ _ _ st5 fun b hb o e => (I8.pin (b, o) (List.mem_append_right _ (List.mem_append_right _ (mem_pinsAt hb e)))).1, fun b hb => ?_, w8⟩
        obtain ⟨o, e, d⟩ := T.obj _ _ st5 b hb
        exact (I8.pin (b, o) (List.mem_append_right _ (List.mem_append_right _ (mem_pinsAt hb e)))).2.1
      cases b with
      | false =>
        rw [if_neg Bool.false_ne_true] at q7 ⊢
        obtain ⟨m', hm, w7⟩ := q7
        exact again I7 hm w7
      | true =>
        rw [if_pos rfl] at q7 ⊢
        refine thn (he _ _ _ _ _ s7 σ6 H7 _ I7 q7) fun v s8 ⟨y, H8, I8, r8, hD8, m', hm, w8⟩ => ?_
        refine thn (mt_append (X := X.blk (own ++ frn) scope cl H2.objs.size s₂ H1 fp) _ s8 σ6 H8 (.ref s₂.heap.objs.size) [y] _ [v] (fun _ H9 => W (i + 1) m' (ys ++ [y]) σ6 H9) I8 rfl (.cons r8 .nil) ⟨_, ys, y, rfl, rfl, hD8, hsz, w8⟩) fun _ s9 ⟨_, H9, I9, _, w9⟩ => ?_
        exact again I9 hm w9
  exact codeAny_compStart_list loop (T.self X.A 0 _ _ _ st1 loop)
end
def tLC (k : Nat) (js : List Nat) (wi : TI) (g : TG) (tc : TT) (te : TE) : TE := fun σ H Q => wi σ H fun J H1 => LcTurns g tc te (blkSt k js σ) J H1 Q
section
variable {X : Cx}
theorem pe_lc {elt target iter : Expr} {ifs : List Expr} {scope : Scope} {pos : Pos} {cl : List (Str × Addr)} {frn : List Str} {js : List Nat} {wi : TI} {g : TG} {tc : TT} {te : TE} (own : List Str) (hc : X.calm = true) (B : BlkOk X scope cl) (hfr : FrOk X frn js)
    (hloc : ∀ x ∈ frn, scope.names.lookup x ≠ some .local) (hi : PI X target iter wi)
    (hg : ∀ C s₀ H₀ ex, PG (X.blk (own ++ frn) scope cl C s₀ H₀ ex) target g) (hif : ∀ C s₀ H₀ ex, PIf (X.blk (own ++ frn) scope cl C s₀ H₀ ex) ifs tc) (he : ∀ C s₀ H₀ ex, PE (X.blk (own ++ frn) scope cl C s₀ H₀ ex) elt te)
    (hs : ∀ x, foldedSetIterable iter X.env x = pure x := by intro _; rfl) : PE X (.ListComp elt [⟨target, iter, ifs, 0⟩] scope pos) (tLC own.length js wi g tc te) := by
  intro pins s σ H Q I h
  rw [eval_ListComp]
  refine wpAny_comprehension_free (use := none) rfl hs (closureFor_clo B.clo) B.kind B.names (thn (hi pins s σ H _ I h) fun v s1 h1 => thn h1 fun itv s2 h2 => ?_)
  obtain ⟨it, fp, tn, J, H2, e, I2, T, st2, f2, hq⟩ := h2
  subst e
  refine blk_run (RR := fun acc C => compPost (model X.prog X.w) X.A X.xe none (EP X pins σ Q) acc C) hc B hfr hloc hg hif he I2 T st2 f2 hq ?_
  intro D C s' H' m hC I' hn fC q
  exact ⟨m, hn, fun h' sb => ⟨.ref D, H', I'.turned (t' := s'.toks) (fun b o hb e => (sb.2 b hb).trans e) fC.1 fC.2.1 fC.2.2.2.1 fC.2.2.2.2.1 fC.2.2.2.2.2, rfl, q⟩⟩
end
def It.Seq (J : It) (H1 : Hp) (xs : List V) : Prop :=
  ∀ H, Same H1 H → (∀ i x, xs[i]? = some x → J.go i H ∧ ∀ y H', J.yld i H y H' → H' = H ∧ y = x) ∧ ∀ i, xs.length ≤ i → J.stop i H
theorem seq_list {K : PySem.W.Frag} {a : Addr} {xs : List V} {H1 : Hp} (h : SqL K H1 a xs) : (Itl K a).Seq H1 xs := fun H s =>
  ⟨fun i x e => ⟨⟨xs, x, s.seq h, e⟩, fun y H' ⟨e1, e2⟩ => ⟨e1, Option.some.inj ((e2 xs (s.seq h)).symm.trans e)⟩⟩, fun i hi => ⟨xs, s.seq h, hi⟩⟩
theorem Same.upd_new {H H' : Hp} {a : Addr} {o : HO} (h : Same H H') (hn : H a = none) : Same H (upd H' a o) := fun b u e => by
  rw [upd_ne (ne_of_none e hn)]; exact h b u e
theorem lc_one {J : It} {H1 : Hp} {xs : List V} {js : List Nat} {σ : St} {tc : TT} {te : TE} {Q : VK} (hJ : J.Seq H1 xs) (hl : xs.length < sizeLine) (p : V → Bool) (f : V → V)
    (hc : ∀ x ∈ xs, ∀ H, Same H1 H → ∀ R : Bool → Hp → Prop, (∀ H', Same H H' → R (p x) H') → tc (some x :: js.map fun j => (σ[j]?).join) H R)
    (he : ∀ x ∈ xs, p x = true → ∀ H, Same H1 H → ∀ R : VK, (∀ H', Same H H' → R (f x) H') → te (some x :: js.map fun j => (σ[j]?).join) H R)
    (q : ∀ D H, H1 D = none → Same H1 H → H D = some (.lst ((xs.filter p).map f)) → Q (.ref D) H) : LcTurns (gName 0) tc te (blkSt 1 js σ) J H1 Q := by
  intro D hD
  refine ⟨fun i m ys σ1 H => m = xs.length - i ∧ i ≤ xs.length ∧ (∃ o, σ1 = o :: js.map fun j => (σ[j]?).join) ∧ ys = ((xs.take i).filter p).map f ∧ Same H1 H ∧ H D = some (.lst ys),
    ⟨xs.length, by simp, Nat.zero_le _, ⟨none, rfl⟩, by simp, (Same.refl H1).upd_new hD, upd_same⟩, ?_⟩
  rintro i m ys σ1 H ⟨rfl, hi, ⟨o, rfl⟩, rfl, sH, hL⟩
  have hlen : (((xs.take i).filter p).map f).length < sizeLine := by
    rw [List.length_map]
    have h1 := List.length_filter_le p (xs.take i)
    have h2 : (xs.take i).length ≤ xs.length := by rw [List.length_take]; omega
    omega
  refine ⟨hL, hlen, ?_⟩
  by_cases hlt : i < xs.length
  · have e : xs[i]? = some xs[i] := by simp [hlt]
    obtain ⟨go, yl⟩ := (hJ H sH).1 i xs[i] e
    refine .inr ⟨go, fun x H' y => ?_⟩
    obtain ⟨e1, e2⟩ := yl x H' y
    subst e1 e2
    have hm : xs[i] ∈ xs := List.getElem_mem hlt
    have htk : xs.take (i + 1) = xs.take i ++ [xs[i]] := by rw [List.take_add_one, e]; rfl
    show tc (some xs[i] :: js.map fun j => (σ[j]?).join) H' _
    refine hc xs[i] hm H' sH _ fun H3 s3 => ?_
    cases hp : p xs[i] with
    | false =>
      rw [if_neg Bool.false_ne_true]
      refine ⟨xs.length - (i + 1), by omega, rfl, hlt, ⟨_, rfl⟩, ?_, sH.trans s3, s3 _ _ hL⟩
      rw [htk, List.filter_append]; simp [hp]
    | true =>
      rw [if_pos rfl]
      refine he xs[i] hm hp H3 (sH.trans s3) _ fun H4 s4 => ?_
      refine ⟨s4 _ _ (s3 _ _ hL), xs.length - (i + 1), by omega, rfl, hlt, ⟨_, rfl⟩, ?_, ((sH.trans s3).trans s4).upd_new hD, upd_same⟩
      rw [htk, List.filter_append]; simp [hp]
  · have e : i = xs.length := by omega
    subst e
    refine .inl ⟨(hJ H sH).2 _ (Nat.le_refl _), q D H hD sH ?_⟩
    rw [List.take_length] at hL; exact hL
end L2

namespace L2
open PySem PySem.Spec PyProof.Rows
section
variable {X : Cx}
def CBig (i j : Int) : Prop := i.natAbs < 2 ^ 1000 ∧ j.natAbs < 2 ^ 1000
theorem op_mulZ : OpR X (binaryOp .Mult) (rI CBig fun i j => .int (i * j)) := opI fun _ _ _ _ _ _ _ hc q =>
  mul_int q (IntMulOk.of_bits (Nat.le_trans (intBits_le_iff.mpr hc.1) (by decide)) (Nat.le_trans (intBits_le_iff.mpr hc.2) (by decide)))
def CDivZ (_ j : Int) : Prop := 0 < j ∧ j < 2 ^ 1000
theorem op_fdivZ : OpR X (binaryOp .FloorDiv) (rI CDivZ fun i j => .int (i / j)) := opI fun i j _ _ _ _ _ hc q => by
  have h1 : (0 : Int) < j := hc.1
  have h2 : j < 2 ^ 1000 := hc.2
  have h3 : j.natAbs < 2 ^ 1000 := by
    have e : ((j.natAbs : Nat) : Int) = j := Int.natAbs_of_nonneg (by omega)
    have e2 : ((2 ^ 1000 : Nat) : Int) = (2 : Int) ^ 1000 := by rw [Int.natCast_pow]; rfl
    omega
  refine floordiv_int (by omega) (by rw [Int.fdiv_eq_ediv_of_nonneg i (by omega)]; exact q) (.inl (PyProof.noPylong_of_log2 ?_))
  have h4 : j.natAbs ≠ 0 := by omega
  exact Nat.lt_of_lt_of_le ((Nat.log2_lt h4).mpr h3) (by decide)
theorem op_is_bl : OpR X (compareOp .Is) (fun x y H Q => ∃ a b, x = .bl a ∧ y = .bl b ∧ Q (.bl (a == b)) H) := by
  intro pins s σ H x y v u Q I rx ry h
  obtain ⟨a, b, rfl, rfl, q⟩ := h
  cases rx; cases ry
  exact is_bool (fin_bl I q rfl)
theorem op_isnot_bl : OpR X (compareOp .IsNot) (fun x y H Q => ∃ a b, x = .bl a ∧ y = .bl b ∧ Q (.bl (a != b)) H) := by
  intro pins s σ H x y v u Q I rx ry h
  obtain ⟨a, b, rfl, rfl, q⟩ := h
  cases rx; cases ry
  exact isnot_bool (fin_bl I q rfl)
def rIsi (K : PySem.W.Frag) : List V → Hp → VK → Prop := fun xs H Q => ∃ x t c b, xs = [x, .ty c] ∧ TyOf K H x t ∧ PySem.W.kitOne K t (.type c) = some b ∧ Q (.bl b) H
theorem call_isi : CallR X (.builtin "isinstance") (rIsi X.K) := by
  intro pins s σ H xs us Q I r h
  obtain ⟨x, t, c, b, rfl, ty, e, q⟩ := h
  obtain ⟨u, w', rfl, ru, rw'⟩ := vals2 r
  obtain rfl : w' = Value.type c := rw'
  exact isinst_ok I ru ty e fun tk => ⟨.bl b, H, I.tok tk, rfl, q⟩
def eqVs : List V → List V → Bool
  | [], [] => true
  | x :: xs, y :: ys => eqV x y && eqVs xs ys
  | _, _ => false
theorem eqVs_len : ∀ {xs ys : List V}, xs.length ≠ ys.length → eqVs xs ys = false
  | [], [], h => absurd rfl h
  | [], _ :: _, _ => rfl
  | _ :: _, [], _ => rfl
  | x :: xs, y :: ys, h => by
    have h' : xs.length ≠ ys.length := fun e => h (by rw [List.length_cons, List.length_cons, e])
    show (eqV x y && eqVs xs ys) = false
    rw [eqVs_len h', Bool.and_false]
theorem eqVs_range : ∀ {xs ys : List V}, xs.length = ys.length → (List.range xs.length).all (fun j => eqV (xs.getD j .non) (ys.getD j .non)) = eqVs xs ys
  | [], [], _ => rfl
  | [], _ :: _, h => by cases h
  | _ :: _, [], h => by cases h
  | x :: xs, y :: ys, h => by
    have h' : xs.length = ys.length := by simpa using h
    rw [List.length_cons, List.range_succ_eq_map, List.all_cons, List.all_map]
    show (eqV x y && (List.range xs.length).all (fun j => eqV (xs.getD j .non) (ys.getD j .non))) = (eqV x y && eqVs xs ys)
    rw [eqVs_range h']
def rEqL (K : PySem.W.Frag) (neg : Bool) : R2 := fun x y H Q => ∃ a b xs ys, x = .ref a ∧ y = .ref b ∧ SqL K H a xs ∧ SqL K H b ys ∧ xs.all flatV = true ∧ ys.all flatV = true ∧ Q (.bl (if neg then !eqVs xs ys else eqVs xs ys)) H
theorem eqAt_items {A : Around} {s : Shared} {xs ys : List V} {us vs : List Value} (r1 : Vals xs us) (r2 : Vals ys vs) (f1 : xs.all flatV = true) (f2 : ys.all flatV = true) (j : Nat) (h1 : j < us.toArray.size) (h2 : j < vs.toArray.size) :
    SeqAt.EqAt A s us.toArray[j] vs.toArray[j] (eqV (xs.getD j .non) (ys.getD j .non)) := by
  have l1 := r1.length
  have l2 := r2.length
  rw [List.size_toArray] at h1 h2
  have e1 : xs[j]? = some (xs[j]'(by omega)) := by simp [show j < xs.length by omega]
  have e2 : ys[j]? = some (ys[j]'(by omega)) := by simp [show j < ys.length by omega]
  obtain ⟨u, hu, ru⟩ := r1.get e1
  obtain ⟨v, hv, rv⟩ := r2.get e2
  have hu' : us.toArray[j] = u := by
    have := List.getElem?_eq_some_iff.mp hu
    simpa using this.2
  have hv' : vs.toArray[j] = v := by
    have := List.getElem?_eq_some_iff.mp hv
    simpa using this.2
  rw [hu', hv', List.getD_eq_getElem?_getD, List.getD_eq_getElem?_getD, e1, e2]
  exact eqAt_V ru rv (List.all_eq_true.mp f1 _ (List.getElem_mem _)) (List.all_eq_true.mp f2 _ (List.getElem_mem _))
theorem op_eqL (hu : X.A.units < cLine) : OpR X (compareOp .Eq) (rEqL X.K false) := by
  intro pins s σ H x y v u Q I rx ry h
  obtain ⟨a, b, xs, ys, rfl, rfl, ha, hb, f1, f2, q⟩ := h
  cases rx; cases ry
  obtain ⟨us, r1, p1, _⟩ := I.list ha
  obtain ⟨vs, r2, p2, _⟩ := I.list hb
  have l1 := r1.length
  have l2 := r2.length
  by_cases hl : xs.length = ys.length
  · refine SeqAt.eq_listAt p1.isList p2.isList (by simp only [List.size_toArray]; omega) hu (fun j h1 h2 => eqAt_items r1 r2 f1 f2 j h1 h2) ⟨.bl _, H, I, rfl, ?_⟩
    rw [List.size_toArray, ← l1, eqVs_range hl]; exact q
  · refine SeqAt.eq_list_lengthsAt p1.isList p2.isList (by simp only [List.size_toArray, bne_iff_ne, ne_eq]; omega) hu ⟨.bl _, H, I, rfl, ?_⟩
    have e := eqVs_len hl
    rw [if_neg Bool.false_ne_true, e] at q; exact q
theorem op_neL (hu : X.A.units < cLine) : OpR X (compareOp .NotEq) (rEqL X.K true) := by
  intro pins s σ H x y v u Q I rx ry h
  obtain ⟨a, b, xs, ys, rfl, rfl, ha, hb, f1, f2, q⟩ := h
  cases rx; cases ry
  obtain ⟨us, r1, p1, _⟩ := I.list ha
  obtain ⟨vs, r2, p2, _⟩ := I.list hb
  have l1 := r1.length
  have l2 := r2.length
  by_cases hl : xs.length = ys.length
  · refine SeqAt.RcNeAt.lists p1.isList p2.isList (by simp only [List.size_toArray]; omega) hu (fun j h1 h2 => eqAt_items r1 r2 f1 f2 j h1 h2) _ _ _ _ ⟨.bl _, H, I, rfl, ?_⟩
    rw [List.size_toArray, ← l1, eqVs_range hl]; exact q
  · refine SeqAt.RcNeAt.lists_lengths p1.isList p2.isList (by simp only [List.size_toArray, bne_iff_ne, ne_eq]; omega) hu _ _ _ _ ⟨.bl _, H, I, rfl, ?_⟩
    have e := eqVs_len hl
    rw [if_pos rfl, e] at q; exact q
theorem Vals.bools : ∀ {bs : List Bool} {us : List Value}, Vals (bs.map V.bl) us → us = bs.map Value.bool
  | [], _, .nil => rfl
  | b :: bs, _ :: _, .cons r t => by
    cases (show _ = Value.bool b from r)
    rw [List.map_cons, Vals.bools t]
theorem all_range (bs : List Bool) : (List.range bs.length).all (fun i => bs.getD i false) = bs.all id := by
  induction bs with
  | nil => rfl
  | cons b r ih =>
    rw [List.length_cons, List.range_succ_eq_map, List.all_cons, List.all_map, List.all_cons]
    show (b && (List.range r.length).all (fun i => r.getD i false)) = _
    rw [ih]; rfl
theorem truth_bools (bs : List Bool) (A : Around) (P : Program) (w : World) : TruthOf P w A (fun i v => (bs.map Value.bool).toArray[i]? = some v) (fun i => bs.getD i false) := fun i v s Q E hP hQ => by
  have e : (bs[i]?).map Value.bool = some v := by simpa using hP
  cases q : bs[i]? with
  | none => rw [q] at e; cases e
  | some b =>
    rw [q] at e
    have e' : Value.bool b = v := Option.some.inj e
    subst e'
    have hb : bs.getD i false = b := by rw [List.getD_eq_getElem?_getD, q]; rfl
    have hQ' : Q (bs.getD i false) s := hQ
    rw [hb] at hQ'
    exact wpAny_truthy_bool hQ'
def rAll (K : PySem.W.Frag) : List V → Hp → VK → Prop := fun vs H Q => ∃ (a : Addr) (bs : List Bool), vs = [.ref a] ∧ SqL K H a (bs.map V.bl) ∧ Q (.bl (bs.all id)) H
theorem call_allB (hc : X.calm = true) : CallR X (.builtin "all") (rAll X.K) := by
  intro pins s σ H xs us Q I r h
  obtain ⟨a, bs, rfl, hq, q⟩ := h
  obtain ⟨u, rfl, ru⟩ := vals1 r
  cases ru
  obtain ⟨its, rv, p, hz⟩ := I.list hq
  obtain rfl := rv.bools
  have ha : a < s.heap.objs.size := by obtain ⟨o, e, _⟩ := p.isList; exact Heap.lt_size e
  refine call_all_walk (wpAny_pyIter_list p.isList ⟨s.heap.objs.size, _, _, _, _, _, fun i => bs.getD i false, rfl, Walks.list (A := X.A.in1) (I.ok.hd hc) _ a (Nat.ne_of_lt ha) _, ⟨⟨_, Heap.get?_push_size _ rfl, rfl, rfl⟩, p.isList.push _⟩, truth_bools bs _ _ _, fun h' tk hk => ?_⟩)
  refine ⟨.bl (bs.all id), H, I.kept fun b o e => hk b o (fun z => ?_) (Heap.get?_push_of_some _ e), ?_, q⟩
  · have z' : b = s.heap.objs.size := by simpa using z
    exact absurd (Heap.lt_size e) (by rw [z']; exact Nat.lt_irrefl _)
  · show Value.bool _ = Value.bool _
    rw [← all_range bs]; simp
def rngV (lo : Int) (n : Nat) : List V := (List.range n).map fun (k : Nat) => V.int (lo + (k : Int))
theorem vals_items {lo : Int} {n : Nat} {acc : Array Value} (h : ItemsOf (fun (i : Nat) v => ∃ t, v = Value.int (lo + (i : Int) * 1) t) acc n) : Vals (rngV lo n) acc.toList := by
  obtain ⟨hs, hi⟩ := h
  have key : ∀ (xs : List Value) (m : Nat), (∀ j v, xs[j]? = some v → ∃ t, v = Value.int (lo + ((m + j : Nat) : Int)) t) → Vals ((List.range' m xs.length).map fun (k : Nat) => V.int (lo + (k : Int))) xs := by
    intro xs
    induction xs with
    | nil => intro m _; exact .nil
    | cons x r ih =>
      intro m hx
      rw [List.length_cons, List.range'_succ, List.map_cons]
      refine .cons ?_ (ih (m + 1) fun j v e => ?_)
      · obtain ⟨t, e⟩ := hx 0 x rfl
        exact ⟨t, by simpa using e⟩
      · obtain ⟨t, e'⟩ := hx (j + 1) v (by simpa using e)
        exact ⟨t, by rw [e']; congr 2; omega⟩
  have := key acc.toList 0 fun j v e => by
    obtain ⟨t, e'⟩ := hi j v (by simpa using e)
    exact ⟨t, by rw [e', Int.mul_one, Nat.zero_add]⟩
  rw [Array.length_toList, hs, ← List.range_eq_range'] at this
  exact this
def rListRng : List V → Hp → VK → Prop := fun vs H Q => ∃ a lo hi, vs = [.ref a] ∧ H a = some (.rng lo hi) ∧ (-(2 ^ 62) ≤ lo ∧ lo < 2 ^ 62 ∧ -(2 ^ 62) ≤ hi ∧ hi < 2 ^ 62) ∧ (hi - lo).toNat ≤ 2 ^ 20 ∧ ∀ p, H p = none → Q (.ref p) (upd H p (.lst (rngV lo (hi - lo).toNat)))
theorem call_listRng (hc : X.calm = true) : CallR X (.type "list") rListRng := by
  intro pins s σ H xs us Q I r h
  obtain ⟨a, lo, hi, rfl, ha, ⟨h1, h2, h3, h4⟩, hn, q⟩ := h
  obtain ⟨u, rfl, ru⟩ := vals1 r
  cases ru
  obtain ⟨t, u, v, e⟩ := (show ObjOk X.prog X.w H s.heap a (.rng lo hi) from I.hok a _ ha)
  refine call_list_range (n := (hi - lo).toNat) (I.ok.hd hc) e (small_one h1 h2 h3 h4) (by rw [rangeSize_one]; split <;> omega) (by omega) fun h' tk acc c hk hS hacc => ?_
  have hv := vals_items hacc
  have hlen : (rngV lo (hi - lo).toNat).length ≤ sizeLine := by
    unfold rngV
    rw [List.length_map, List.length_range]
    exact Nat.le_trans hn (by decide)
  exact ⟨.ref s.heap.objs.size, _, I.laid hk (Nat.le_refl _) (show ObjOk X.prog X.w _ _ _ (.lst (rngV lo (hi - lo).toNat)) from ⟨hlen, acc.toList, c, hv, by simpa using hS⟩), rfl, q _ (I.hok.fresh (Nat.le_refl _))⟩
end
def Itz (K : PySem.W.Frag) (a b : Addr) : It :=
  ⟨fun i H => ∃ xs ys x y, SqL K H a xs ∧ SqL K H b ys ∧ xs[i]? = some x ∧ ys[i]? = some y,
   fun i H v H' => ∃ x y p, (∀ xs, SqL K H a xs → xs[i]? = some x) ∧ (∀ ys, SqL K H b ys → ys[i]? = some y) ∧ v = .ref p ∧ H p = none ∧ H' = upd H p (.tup [x, y]),
   fun i H => ∃ xs ys, SqL K H a xs ∧ SqL K H b ys ∧ (xs.length ≤ i ∨ ys.length ≤ i)⟩
section
variable {X : Cx}
def iZip (K : PySem.W.Frag) (ta : TA) : TI := fun σ H R => ta σ H fun vs H1 => ∃ a b, vs = [.ref a, .ref b] ∧ (∃ xs, SqL K H1 a xs) ∧ (∃ ys, SqL K H1 b ys) ∧ R (Itz K a b) H1
end
end L2

namespace L2
open PySem PySem.Spec PyProof.Rows
section
variable {X : Cx}
def nw (H : Hp) (o : HO) (Q : VK) : Prop := ∀ p H', H p = none → Same H H' → H' p = some o → Q (.ref p) H'
theorem same_upd {H : Hp} {a : Addr} {o : HO} (hn : H a = none) : Same H (upd H a o) := fun b u e => by rw [upd_ne (ne_of_none e hn)]; exact e
theorem nw.go {H : Hp} {o : HO} {Q : VK} (h : nw H o Q) (p : Addr) (hp : H p = none) : Q (.ref p) (upd H p o) := h p _ hp (same_upd hp) upd_same
def rAddX : R2 := fun x y H Q => match x, y with
  | .int i, .int j => Q (.int (i + j)) H
  | .str a, .str b => a.length + b.length ≤ sizeLine ∧ Q (.str (a ++ b)) H
  | .ref l, .ref b => ∃ xs zs, H l = some (.lst xs) ∧ H b = some (.lst zs) ∧ xs.length + zs.length ≤ sizeLine ∧ nw H (.lst (xs ++ zs)) Q
  | _, _ => False
theorem op_addX : OpR X (binaryOp .Add) rAddX := by
  intro pins s σ H x y v u Q I rx ry h
  cases x with
  | int i => cases y with
    | int j => exact op_add pins s σ H _ _ v u Q I rx ry ⟨_, _, rfl, rfl, h⟩
    | _ => exact False.elim h
  | str a => cases y with
    | str b => exact op_add_str pins s σ H _ _ v u Q I rx ry ⟨_, _, rfl, rfl, h.1, h.2⟩
    | _ => exact False.elim h
  | ref l => cases y with
    | ref b =>
      obtain ⟨xs, zs, h1, h2, h3, h4⟩ := h
      exact op_cat pins s σ H _ _ v u Q I rx ry ⟨_, _, xs, zs, rfl, rfl, h1, h2, h3, h4.go⟩
    | _ => exact False.elim h
  | _ => exact False.elim h
def rSubX : R2 := fun x y H Q => match x, y with
  | .int i, .int j => Q (.int (i - j)) H
  | _, _ => False
def rMulX : R2 := fun x y H Q => match x, y with
  | .int i, .int j => CBig i j ∧ Q (.int (i * j)) H
  | .ref l, .int k => ∃ xs, H l = some (.lst xs) ∧ -(2 ^ 63) ≤ k ∧ k < 2 ^ 63 ∧ xs.length * k.toNat ≤ sizeLine ∧ nw H (.lst (List.replicate k.toNat xs).flatten) Q
  | _, _ => False
theorem op_mulX : OpR X (binaryOp .Mult) rMulX := by
  intro pins s σ H x y v u Q I rx ry h
  cases x with
  | int i => cases y with
    | int j => exact op_mulZ pins s σ H _ _ v u Q I rx ry ⟨_, _, rfl, rfl, h.1, h.2⟩
    | _ => exact False.elim h
  | ref l => cases y with
    | int k =>
      obtain ⟨xs, h1, h2, h3, h4, h5⟩ := h
      exact op_rep pins s σ H _ _ v u Q I rx ry ⟨_, _, xs, rfl, rfl, h1, h2, h3, h4, h5.go⟩
    | _ => exact False.elim h
  | _ => exact False.elim h
def rFdivX : R2 := fun x y H Q => match x, y with
  | .int i, .int j => (0 < j ∧ j < 2 ^ 1000) ∧ Q (.int (i / j)) H
  | _, _ => False
theorem op_fdivX : OpR X (binaryOp .FloorDiv) rFdivX := by
  intro pins s σ H x y v u Q I rx ry h
  cases x with
  | int i => cases y with
    | int j => exact op_fdivZ pins s σ H _ _ v u Q I rx ry ⟨_, _, rfl, rfl, h.1, h.2⟩
    | _ => exact False.elim h
  | _ => exact False.elim h
def rModX : R2 := fun x y H Q => match x, y with
  | .int i, .int j => 0 < j ∧ Q (.int (i % j)) H
  | _, _ => False
theorem op_modX : OpR X (binaryOp .Mod) rModX := by
  intro pins s σ H x y v u Q I rx ry h
  cases x with
  | int i => cases y with
    | int j => exact op_mod pins s σ H _ _ v u Q I rx ry ⟨_, _, rfl, rfl, h.1, h.2⟩
    | _ => exact False.elim h
  | _ => exact False.elim h
def rPowX : R2 := fun x y H Q => match x, y with
  | .int i, .int j => (0 ≤ j ∧ j ≤ 1000000 ∧ i.natAbs < 2 ^ 64) ∧ Q (.int (i ^ j.toNat)) H
  | _, _ => False
theorem op_powX : OpR X (binaryOp .Pow) rPowX := by
  intro pins s σ H x y v u Q I rx ry h
  cases x with
  | int i => cases y with
    | int j => exact op_pow pins s σ H _ _ v u Q I rx ry ⟨_, _, rfl, rfl, h.1, h.2⟩
    | _ => exact False.elim h
  | _ => exact False.elim h
def rCmpX (f : Int → Int → Bool) : R2 := fun x y H Q => match x, y with
  | .int i, .int j => Q (.bl (f i j)) H
  | _, _ => False
theorem op_cmpX {op : CmpOp} {f : Int → Int → Bool} (h0 : OpR X (compareOp op) (rI0 fun i j => .bl (f i j))) : OpR X (compareOp op) (rCmpX f) := by
  intro pins s σ H x y v u Q I rx ry h
  cases x with
  | int i => cases y with
    | int j => exact h0 pins s σ H _ _ v u Q I rx ry ⟨_, _, rfl, rfl, h⟩
    | _ => exact False.elim h
  | _ => exact False.elim h
abbrev rLtX : R2 := rCmpX fun i j => decide (i < j)
abbrev rLeX : R2 := rCmpX fun i j => decide (i ≤ j)
abbrev rGtX : R2 := rCmpX fun i j => decide (j < i)
theorem op_ltX : OpR X (compareOp .Lt) rLtX := op_cmpX op_lt
theorem op_leX : OpR X (compareOp .LtE) rLeX := op_cmpX op_le
theorem op_gtX : OpR X (compareOp .Gt) rGtX := op_cmpX op_gt
def rEqX (K : PySem.W.Frag) : R2 := fun x y H Q => match x, y with
  | .int i, .int j => Q (.bl (decide (i = j))) H
  | .bl i, .bl j => Q (.bl (decide (i = j))) H
  | .str i, .str j => Q (.bl (decide (i = j))) H
  | .ref a, .ref b => ∃ xs ys, SqL K H a xs ∧ SqL K H b ys ∧ xs.all flatV = true ∧ ys.all flatV = true ∧ Q (.bl (eqVs xs ys)) H
  | _, _ => False
def rNeX (K : PySem.W.Frag) : R2 := fun x y H Q => match x, y with
  | .int i, .int j => Q (.bl (!decide (i = j))) H
  | .bl i, .bl j => Q (.bl (!decide (i = j))) H
  | .str i, .str j => Q (.bl (!decide (i = j))) H
  | .ref a, .ref b => ∃ xs ys, SqL K H a xs ∧ SqL K H b ys ∧ xs.all flatV = true ∧ ys.all flatV = true ∧ Q (.bl (!eqVs xs ys)) H
  | _, _ => False
theorem decV_int (i j : Int) : decide (V.int i = V.int j) = decide (i = j) := by
  by_cases e : i = j
  · subst e; simp
  · rw [decide_eq_false e]; exact decide_eq_false fun h => e (V.int.inj h)
theorem decV_bl (i j : Bool) : decide (V.bl i = V.bl j) = decide (i = j) := by
  by_cases e : i = j
  · subst e; simp
  · rw [decide_eq_false e]; exact decide_eq_false fun h => e (V.bl.inj h)
theorem decV_str (i j : Str) : decide (V.str i = V.str j) = decide (i = j) := by
  by_cases e : i = j
  · subst e; simp
  · rw [decide_eq_false e]; exact decide_eq_false fun h => e (V.str.inj h)
theorem op_eqX (hu : X.A.units < cLine) : OpR X (compareOp .Eq) (rEqX X.K) := by
  intro pins s σ H x y v u Q I rx ry h
  cases x with
  | int i => cases y with
    | int j => exact op_eq pins s σ H _ _ v u Q I rx ry ⟨rfl, by rw [decV_int]; exact h⟩
    | _ => exact False.elim h
  | bl i => cases y with
    | bl j => exact op_eq pins s σ H _ _ v u Q I rx ry ⟨rfl, by rw [decV_bl]; exact h⟩
    | _ => exact False.elim h
  | str i => cases y with
    | str j => exact op_eq pins s σ H _ _ v u Q I rx ry ⟨rfl, by rw [decV_str]; exact h⟩
    | _ => exact False.elim h
  | ref a => cases y with
    | ref b =>
      obtain ⟨xs, ys, h1, h2, h3, h4, h5⟩ := h
      exact op_eqL hu pins s σ H _ _ v u Q I rx ry ⟨_, _, xs, ys, rfl, rfl, h1, h2, h3, h4, h5⟩
    | _ => exact False.elim h
  | _ => exact False.elim h
theorem op_neX (hu : X.A.units < cLine) : OpR X (compareOp .NotEq) (rNeX X.K) := by
  intro pins s σ H x y v u Q I rx ry h
  cases x with
  | int i => cases y with
    | int j => exact op_ne pins s σ H _ _ v u Q I rx ry ⟨rfl, by rw [decV_int]; exact h⟩
    | _ => exact False.elim h
  | bl i => cases y with
    | bl j => exact op_ne pins s σ H _ _ v u Q I rx ry ⟨rfl, by rw [decV_bl]; exact h⟩
    | _ => exact False.elim h
  | str i => cases y with
    | str j => exact op_ne pins s σ H _ _ v u Q I rx ry ⟨rfl, by rw [decV_str]; exact h⟩
    | _ => exact False.elim h
  | ref a => cases y with
    | ref b =>
      obtain ⟨xs, ys, h1, h2, h3, h4, h5⟩ := h
      exact op_neL hu pins s σ H _ _ v u Q I rx ry ⟨_, _, xs, ys, rfl, rfl, h1, h2, h3, h4, h5⟩
    | _ => exact False.elim h
  | _ => exact False.elim h
def isV : V → V → Option Bool
  | .non, .non => some true
  | .bl _, .non => some false
  | .int _, .non => some false
  | .str _, .non => some false
  | .ref _, .non => some false
  | .bl a, .bl b => some (a == b)
  | _, _ => none
def rIsX (neg : Bool) : R2 := fun x y H Q => match isV x y with
  | some b => Q (.bl (b != neg)) H
  | none => False
theorem op_isX : OpR X (compareOp .Is) (rIsX false) := by
  intro pins s σ H x y v u Q I rx ry h
  cases x <;> cases y <;> first
    | exact False.elim h
    | exact op_isN pins s σ H _ _ v u Q I rx ry ⟨rfl, h⟩
    | exact op_is_bl pins s σ H _ _ v u Q I rx ry ⟨_, _, rfl, rfl, by simpa [rIsX, isV] using h⟩
theorem op_isnotX : OpR X (compareOp .IsNot) (rIsX true) := by
  intro pins s σ H x y v u Q I rx ry h
  cases x <;> cases y <;> first
    | exact False.elim h
    | exact op_notN pins s σ H _ _ v u Q I rx ry ⟨rfl, h⟩
    | exact op_isnot_bl pins s σ H _ _ v u Q I rx ry ⟨_, _, rfl, rfl, by simpa [rIsX, isV, bne] using h⟩
def Sq (K : PySem.W.Frag) (H : Hp) (a : Addr) (xs : List V) : Prop := SqL K H a xs ∨ SqT K H a xs
theorem Sq.l {K : PySem.W.Frag} {H : Hp} {a : Addr} {xs : List V} (h : H a = some (.lst xs)) : Sq K H a xs := .inl (.of h)
theorem Sq.t {K : PySem.W.Frag} {H : Hp} {a : Addr} {xs : List V} (h : H a = some (.tup xs)) : Sq K H a xs := .inr (.of h)
def rIxX (K : PySem.W.Frag) : R2 := fun x y H Q => match x, y with
  | .ref p, .int i => ∃ xs v, Sq K H p xs ∧ atI xs i = some v ∧ Q v H
  | .str z, .int i => z.length ≤ sizeLine ∧ ∃ c, atI z.cps.toList i = some c ∧ Q (.str ⟨#[c]⟩) H
  | _, _ => False
theorem ix_X : IxR X (rIxX X.K) := by
  intro value slice pins s σ H x y v u Q I rx ry h hs
  cases x with
  | ref p => cases y with
    | int i =>
      obtain ⟨xs, w', h1 | h1, h2, h3⟩ := h
      · exact ix_list value slice pins s σ H _ _ v u Q I rx ry ⟨_, xs, _, w', rfl, rfl, h1, h2, h3⟩ hs
      · exact ix_tup value slice pins s σ H _ _ v u Q I rx ry ⟨_, xs, _, w', rfl, rfl, h1, h2, h3⟩ hs
    | _ => exact False.elim h
  | str z => cases y with
    | int i =>
      obtain ⟨h1, c, h2, h3⟩ := h
      exact ix_str value slice pins s σ H _ _ v u Q I rx ry ⟨z, i, c, rfl, rfl, h1, h2, h3⟩ hs
    | _ => exact False.elim h
  | _ => exact False.elim h
def rLenX (K : PySem.W.Frag) : List V → Hp → VK → Prop := fun vs H Q => match vs with
  | [.str z] => z.length ≤ sizeLine ∧ Q (.int z.length) H
  | [.ref p] => ∃ xs, Sq K H p xs ∧ Q (.int xs.length) H
  | _ => False
theorem call_lenX : CallR X (.builtin "len") (rLenX X.K) := by
  intro pins s σ H xs us Q I r h
  match xs, h with
  | [.str z], h => exact call_len_str pins s σ H _ us Q I r ⟨z, rfl, h.1, h.2⟩
  | [.ref p], h =>
    obtain ⟨ys, h1, h2⟩ := h
    exact call_len_seq pins s σ H _ us Q I r ⟨p, ys, rfl, h1, h2⟩
def rAbsX : List V → Hp → VK → Prop := fun vs H Q => match vs with
  | [.int i] => Q (.int (i.natAbs : Int)) H
  | _ => False
def rMinX : List V → Hp → VK → Prop := fun vs H Q => match vs with
  | [.int i, .int j] => Q (.int (min i j)) H
  | _ => False
def rMaxX : List V → Hp → VK → Prop := fun vs H Q => match vs with
  | [.int i, .int j] => Q (.int (max i j)) H
  | _ => False
theorem call_minX (hc : X.calm = true) : CallR X (.builtin "min") rMinX := by
  intro pins s σ H xs us Q I r h
  match xs, h with
  | [.int i, .int j], h =>
    refine call_min2 hc pins s σ H _ us Q I r ⟨i, j, rfl, ?_⟩
    have e : (if j < i then j else i) = min i j := by
      rw [Int.min_def]; split <;> split <;> omega
    rw [e]; exact h
theorem call_maxX (hc : X.calm = true) : CallR X (.builtin "max") rMaxX := by
  intro pins s σ H xs us Q I r h
  match xs, h with
  | [.int i, .int j], h =>
    refine call_max2 hc pins s σ H _ us Q I r ⟨i, j, rfl, ?_⟩
    have e : (if j > i then j else i) = max i j := by
      rw [Int.max_def]; split <;> split <;> omega
    rw [e]; exact h
def rListX (K : PySem.W.Frag) : List V → Hp → VK → Prop := fun vs H Q => match vs with
  | [.ref a] => ∃ ys, (Sq K H a ys ∨ ∃ lo hi, H a = some (.rng lo hi) ∧ (-(2 ^ 62) ≤ lo ∧ lo < 2 ^ 62 ∧ -(2 ^ 62) ≤ hi ∧ hi < 2 ^ 62) ∧ (hi - lo).toNat ≤ 2 ^ 20 ∧ ys = rngV lo (hi - lo).toNat) ∧ nw H (.lst ys) Q
  | _ => False
theorem call_listX (hc : X.calm = true) : CallR X (.type "list") (rListX X.K) := by
  intro pins s σ H xs us Q I r h
  match xs, h with
  | [.ref a], h =>
    obtain ⟨ys, h1 | ⟨lo, hi, h1, h2, h3, rfl⟩, h4⟩ := h
    · exact call_list_of pins s σ H _ us Q I r ⟨a, ys, rfl, h1, h4.go⟩
    · exact call_listRng hc pins s σ H _ us Q I r ⟨a, lo, hi, rfl, h1, h2, h3, h4.go⟩
def rRngX : List V → Hp → VK → Prop := fun vs H Q => match vs with
  | [.int j] => nw H (.rng 0 j) Q
  | _ => False
theorem bt_isinstance : bootBuiltins "isinstance" = some (.builtin "isinstance") := by kernel_rfl
theorem bt_len : bootBuiltins "len" = some (.builtin "len") := by kernel_rfl
theorem bt_all : bootBuiltins "all" = some (.builtin "all") := by kernel_rfl
theorem bt_min : bootBuiltins "min" = some (.builtin "min") := by kernel_rfl
theorem bt_max : bootBuiltins "max" = some (.builtin "max") := by kernel_rfl
theorem bt_list : bootBuiltins "list" = some (.type "list") := by kernel_rfl
theorem bt_tuple : bootBuiltins "tuple" = some (.type "tuple") := by kernel_rfl
theorem bt_str : bootBuiltins "str" = some (.type "str") := by kernel_rfl
theorem pe_ty {x : Str} {T : String} {pos : Pos} (hg : Gl X x) (hm : X.mg x = none) (hv : bootBuiltins x = some (.type T)) (hn : x ≠ "__name__" := by decide) (hd : (x == ("__debug__" : Str)) = false := by decide) : PE X (.Name x pos) (tC (.ty T)) :=
  pe_bltn hg hm hv rfl hn hd
structure Fnc (P : Program) (w : World) (K : PySem.W.Frag) (mg : Str → Option Value) (base : Heap) (CX : CXT) (k : Nat) (x : Str) (ps : List Str) (sp : Sp) : Prop where
  ex : ∃ (f : Addr) (fd : FuncData), FnOk P w K mg base CX k f fd ps sp ∧ mg x = some (.ref f) ∧ PySem.W.keepIn K (.ref f) = true ∧ Binds K fd ps []
theorem pe_callF {CX : CXT} {E : St → XK} {k : Nat} {x : Str} {ps : List Str} {sp : Sp} {e : Expr} {es : List Expr} {t : TA} {p pos : Pos} (C : Fnc X.prog X.w X.K X.mg X.base CX k x ps sp) (hx : Passes CX X E) (hr : Room k X.A) (hg : Gl X x) (ha : PA X (e :: es) t)
    (hd : (x == ("__debug__" : Str)) = false := by decide)
    (he : starEach (e :: es) X.env = (false, eval e X.env) :: starEach es X.env := by rfl) (hpl : (backTo pos (starEach es X.env)).any (·.1) = false := by rfl) : PE X (.Call (.Name x p) (e :: es) [] pos) (tCall sp [] E t) := by
  obtain ⟨f, fd, F, hm, hk, hb⟩ := C.ex
  exact pe_call F hr hg hm hk hb .nil hx ha hd he hpl
end
def ForTurns (g : TG) (tb : TS) (D : Ends) (J : It) (σ : St) (H : Hp) : Prop := ∃ W : Nat → Nat → St → Hp → Prop, (∃ m, W 0 m σ H) ∧ ∀ i m σ H, W i m σ H →
  (J.stop i H ∧ D.nx σ H) ∨ (J.go i H ∧ ∃ N : St → Hp → Prop, (∀ σ' H', N σ' H' → ∃ m', m' < m ∧ W (i + 1) m' σ' H') ∧ ∀ x H', J.yld i H x H' → g x σ H' fun σ2 H2 => tb { D with nx := N, ct := N, bk := D.nx } σ2 H2)
theorem for_rng {lo : Int} {n : Nat} {g : TG} {tb : TS} {D : Ends} {σ : St} {H : Hp} (Pv : Nat → St → Hp → Prop) (h0 : Pv 0 σ H)
    (hs : ∀ i σ H, i < n → Pv i σ H → g (.int (lo + i)) σ H fun σ2 H2 => tb { D with nx := Pv (i + 1), ct := Pv (i + 1), bk := D.nx } σ2 H2) (hd : ∀ σ H, Pv n σ H → D.nx σ H) : ForTurns g tb D (Itr lo n) σ H := for_range Pv h0 hs hd
def tLstX (t : TA) : TE := fun σ H Q => t σ H fun xs H1 => xs.length ≤ sizeLine ∧ nw H1 (.lst xs) Q
def tTupX (t : TA) : TE := fun σ H Q => t σ H fun xs H1 => xs.length ≤ sizeLine ∧ nw H1 (.tup xs) Q
def tDNewX : TE := fun _ H Q => nw H (.dK []) Q
theorem pe_lstX {X : Cx} {es : List Expr} {t : TA} {pos : Pos} (h : PA X es t) : PE X (.List es pos) (tLstX t) := by
  intro pins s σ H Q I hq
  refine wpAny_List_spliced (thn (h pos pins s σ H _ I hq) fun us s1 ⟨xs, H1, I1, r, z, q⟩ => ⟨by rw [← r.length]; exact z, ?_⟩)
  have hf : H1 s1.heap.objs.size = none := I1.hok.fresh (Nat.le_refl _)
  refine ⟨.ref s1.heap.objs.size, upd H1 s1.heap.objs.size (.lst xs), I1.laid (t' := s1.toks) (fun b u e => Heap.get?_push_of_some _ e) (Nat.le_refl _) ?_, rfl, nw.go q _ hf⟩
  exact ⟨z, us, 0, r, Heap.get?_push_size _ rfl⟩
theorem pe_tupX {X : Cx} {es : List Expr} {t : TA} {pos : Pos} {x1} (h : PA X es t) : PE X (.Tuple es x1 pos) (tTupX t) := by
  intro pins s σ H Q I hq
  refine wpAny_Tuple_spliced (thn (h pos pins s σ H _ I hq) fun us s1 ⟨xs, H1, I1, r, z, q⟩ => ⟨by rw [← r.length]; exact z, ?_⟩)
  have hf : H1 s1.heap.objs.size = none := I1.hok.fresh (Nat.le_refl _)
  refine ⟨.ref s1.heap.objs.size, upd H1 s1.heap.objs.size (.tup xs), I1.laid (t' := s1.toks) (fun b u e => Heap.get?_push_of_some _ e) (Nat.le_refl _) ?_, rfl, nw.go q _ hf⟩
  exact ⟨z, us, r, ⟨_, Heap.get?_push_size _ rfl, rfl, _, rfl⟩⟩
section
variable {σ : St} {H : Hp} {Q : VK} {D : Ends}
theorem ap_seq {t u : TS} : tSeq t u D σ H = t { D with nx := u D } σ H := propext Iff.rfl
theorem ap_asg {te : TE} {g : TG} : tAsg te g D σ H = te σ H fun x H1 => g x σ H1 D.nx := propext Iff.rfl
theorem ap_gname {i : Nat} {v : V} {R : St → Hp → Prop} : gName i v σ H R = R (σ.set i (some v)) H := propext Iff.rfl
theorem ap_var {i : Nat} : tVar i σ H Q = ∃ v, σ[i]? = some (some v) ∧ Q v H := propext Iff.rfl
theorem ap_c {v : V} : tC v σ H Q = Q v H := propext Iff.rfl
theorem ap_op {r : R2} {ta tb : TE} : tOp r ta tb σ H Q = ta σ H fun x H1 => tb σ H1 fun y H2 => r x y H2 Q := propext Iff.rfl
theorem ap_un {r : V → Hp → VK → Prop} {ta : TE} : tUn r ta σ H Q = ta σ H fun x H1 => r x H1 Q := propext Iff.rfl
theorem ap_cb {r : List V → Hp → VK → Prop} {t : TA} : tCB r t σ H Q = t σ H fun vs H1 => r vs H1 Q := propext Iff.rfl
theorem ap_cons {ta : TE} {tr : TA} {R : List V → Hp → Prop} : tCons ta tr σ H R = ta σ H fun x H1 => tr σ H1 fun xs H2 => R (x :: xs) H2 := propext Iff.rfl
theorem ap_nil {R : List V → Hp → Prop} : tNil σ H R = R [] H := propext Iff.rfl
theorem ap_call {sp : Sp} {E : St → XK} {t : TA} : tCall sp [] E t σ H Q = t σ H fun vs H1 => sp vs H1 Q (E σ) := by
  show (t σ H fun vs H1 => sp (vs ++ []) H1 Q (E σ)) = _
  simp only [List.append_nil]
theorem ap_ret {te : TE} : tRet te D σ H = te σ H D.rt := propext Iff.rfl
theorem ap_retN : tRetN D σ H = D.rt .non H := propext Iff.rfl
theorem ap_if {c : TT} {t u : TS} : tIfS c t u D σ H = c σ H fun b H1 => if b = true then t D σ H1 else u D σ H1 := propext Iff.rfl
theorem ap_next : tNext D σ H = D.nx σ H := propext Iff.rfl
theorem ap_drop {te : TE} : tDrop te D σ H = te σ H fun _ H1 => D.nx σ H1 := propext Iff.rfl
theorem ap_test {t : TE} {R : Bool → Hp → Prop} : tTest t σ H R = t σ H fun x H' => ∃ k, x = .bl k ∧ R k H' := propext Iff.rfl
theorem ap_b {t : TE} {R : Bool → Hp → Prop} : tB t σ H R = t σ H fun x H' => ∃ k, x = .bl k ∧ R k H' := propext Iff.rfl
theorem ap_not {t : TT} {R : Bool → Hp → Prop} : tNot t σ H R = t σ H fun c H1 => R (!c) H1 := propext Iff.rfl
theorem ap_and {t u : TT} {R : Bool → Hp → Prop} : tAnd t u σ H R = t σ H fun c H1 => if c = true then u σ H1 R else R false H1 := propext Iff.rfl
theorem ap_or {t u : TT} {R : Bool → Hp → Prop} : tOr t u σ H R = t σ H fun c H1 => if c = true then R true H1 else u σ H1 R := propext Iff.rfl
theorem ap_andV {ta tb : TE} : tAndV ta tb σ H Q = ta σ H fun x H1 => ∃ c, x = .bl c ∧ if c = true then tb σ H1 Q else Q (.bl false) H1 := propext Iff.rfl
theorem ap_orV {ta tb : TE} : tOrV ta tb σ H Q = ta σ H fun x H1 => ∃ c, x = .bl c ∧ if c = true then Q (.bl true) H1 else tb σ H1 Q := propext Iff.rfl
theorem ap_notV {ta : TE} : tNotV ta σ H Q = ta σ H fun x H1 => ∃ c, x = .bl c ∧ Q (.bl (!c)) H1 := propext Iff.rfl
theorem ap_ifE {t : TT} {ta tb : TE} : tIf t ta tb σ H Q = t σ H fun c H1 => if c = true then ta σ H1 Q else tb σ H1 Q := propext Iff.rfl
theorem ap_lst {t : TA} : tLstX t σ H Q = t σ H fun xs H1 => xs.length ≤ sizeLine ∧ nw H1 (.lst xs) Q := propext Iff.rfl
theorem ap_tup {t : TA} : tTupX t σ H Q = t σ H fun xs H1 => xs.length ≤ sizeLine ∧ nw H1 (.tup xs) Q := propext Iff.rfl
theorem ap_dnew : tDNewX σ H Q = nw H (.dK []) Q := propext Iff.rfl
theorem ap_lc {k : Nat} {js : List Nat} {wi : TI} {g : TG} {tc : TT} {te : TE} : tLC k js wi g tc te σ H Q = wi σ H fun J H1 => LcTurns g tc te (blkSt k js σ) J H1 Q := propext Iff.rfl
theorem ap_sl {r : V → Option Int → Option Int → Hp → VK → Prop} {te : TE} {tl th : TO} : tSl r te tl th σ H Q = te σ H fun x H1 => tl σ H1 fun l H2 => th σ H2 fun u H3 => r x l u H3 Q := propext Iff.rfl
theorem ap_noPart {R : Option Int → Hp → Prop} : tNoPart σ H R = R none H := propext Iff.rfl
theorem ap_part {t : TE} {R : Option Int → Hp → Prop} : tPart t σ H R = t σ H fun x H1 => ∃ i, x = .int i ∧ R (some i) H1 := propext Iff.rfl
theorem ap_iList {K : PySem.W.Frag} {tl : TE} {R : It → Hp → Prop} : iList K tl σ H R = tl σ H fun x H1 => ∃ a, x = .ref a ∧ (∃ xs, SqL K H1 a xs) ∧ R (Itl K a) H1 := propext Iff.rfl
theorem ap_iRng1 {ta : TA} {R : It → Hp → Prop} : iRng1 ta σ H R = ta σ H fun vs H1 => ∃ j : Int, vs = [.int j] ∧ -(2 ^ 62) ≤ j ∧ j < 2 ^ 62 ∧ R (Itr 0 j.toNat) H1 := propext Iff.rfl
theorem ap_iRng2 {ta : TA} {R : It → Hp → Prop} : iRng2 ta σ H R = ta σ H fun vs H1 => ∃ i j : Int, vs = [.int i, .int j] ∧ (-(2 ^ 62) ≤ i ∧ i < 2 ^ 62 ∧ -(2 ^ 62) ≤ j ∧ j < 2 ^ 62) ∧ R (Itr i (j - i).toNat) H1 := propext Iff.rfl
theorem ap_iZip {K : PySem.W.Frag} {ta : TA} {R : It → Hp → Prop} : iZip K ta σ H R = ta σ H fun vs H1 => ∃ a b, vs = [.ref a, .ref b] ∧ (∃ xs, SqL K H1 a xs) ∧ (∃ ys, SqL K H1 b ys) ∧ R (Itz K a b) H1 := propext Iff.rfl
theorem ap_for {wi : TI} {g : TG} {tb : TS} : tFor wi g tb D σ H = wi σ H fun J H1 => ForTurns g tb D J σ H1 := propext Iff.rfl
theorem ap_par {i j : Nat} {ta : TA} : tPar i j ta D σ H = ta σ H fun vs H1 => ∃ v w, vs = [v, w] ∧ D.nx ((σ.set i (some v)).set j (some w)) H1 := propext Iff.rfl
theorem ap_gsub {to ti : TE} {t : TSet} {v : V} {R : St → Hp → Prop} : gSub to ti t v σ H R = to σ H fun o H1 => ti σ H1 fun i H2 => t o i v H2 fun H3 => R σ H3 := propext Iff.rfl
theorem ap_bm {K : PySem.W.Frag} {T : String} {r : V → List V → Hp → VK → Prop} {to : TE} {t : TA} : tBM K T r to t σ H Q = to σ H fun x H1 => tyV K T x H1 ∧ t σ H1 fun xs H2 => r x xs H2 Q := propext Iff.rfl
theorem ap_bm0 {K : PySem.W.Frag} {T : String} {r : V → List V → Hp → VK → Prop} {to : TE} : tBM0 K T r to σ H Q = to σ H fun x H1 => tyV K T x H1 ∧ r x [] H1 Q := propext Iff.rfl
theorem ap_chain {r r' : R2} {ta tb tc : TE} : tChain r r' ta tb tc σ H Q = ta σ H fun x H1 => tb σ H1 fun y H2 => r x y H2 fun z H3 => ∃ k, z = .bl k ∧ if k = true then tc σ H3 fun v H4 => r' y v H4 Q else Q (.bl false) H3 := propext Iff.rfl
theorem ex_bl {b : Bool} {P : Bool → Prop} : (∃ k, V.bl b = V.bl k ∧ P k) = P b := propext ⟨fun ⟨k, e, h⟩ => by cases e; exact h, fun h => ⟨b, rfl, h⟩⟩
theorem ex_int {b : Int} {P : Int → Prop} : (∃ k, V.int b = V.int k ∧ P k) = P b := propext ⟨fun ⟨k, e, h⟩ => by cases e; exact h, fun h => ⟨b, rfl, h⟩⟩
theorem ex_ref {b : Addr} {P : Addr → Prop} : (∃ k, V.ref b = V.ref k ∧ P k) = P b := propext ⟨fun ⟨k, e, h⟩ => by cases e; exact h, fun h => ⟨b, rfl, h⟩⟩
theorem ex_int1 {b : Int} {P : Int → Prop} : (∃ k, [V.int b] = [V.int k] ∧ P k) = P b := propext ⟨fun ⟨k, e, h⟩ => by cases e; exact h, fun h => ⟨b, rfl, h⟩⟩
theorem ex_int2 {b c : Int} {P : Int → Int → Prop} : (∃ k l, [V.int b, V.int c] = [V.int k, V.int l] ∧ P k l) = P b c := propext ⟨fun ⟨k, l, e, h⟩ => by cases e; exact h, fun h => ⟨b, c, rfl, h⟩⟩
theorem ex_ref2 {b c : Addr} {P : Addr → Addr → Prop} : (∃ k l, [V.ref b, V.ref c] = [V.ref k, V.ref l] ∧ P k l) = P b c := propext ⟨fun ⟨k, l, e, h⟩ => by cases e; exact h, fun h => ⟨b, c, rfl, h⟩⟩
theorem ex_two {b c : V} {P : V → V → Prop} : (∃ k l, [b, c] = [k, l] ∧ P k l) = P b c := propext ⟨fun ⟨k, l, e, h⟩ => by cases e; exact h, fun h => ⟨b, c, rfl, h⟩⟩
theorem ex_some {v : V} {P : V → Prop} : (∃ k, some (some v) = some (some k) ∧ P k) = P v := propext ⟨fun ⟨k, e, h⟩ => by cases e; exact h, fun h => ⟨v, rfl, h⟩⟩
theorem start_eq {N : List Str} {vs : List V} : start N vs = vs.map some ++ List.replicate (N.length - vs.length) none := rfl
end
inductive Tg where
  | non | bl | int | str | lst | tup | dct
  deriving DecidableEq
def Tg.name : Tg → String
  | .non => "NoneType" | .bl => "bool" | .int => "int" | .str => "str" | .lst => "list" | .tup => "tuple" | .dct => "dict"
def Tg.sub : Tg → Tg → Bool
  | .non, .non => true | .bl, .bl => true | .int, .int => true | .str, .str => true | .lst, .lst => true | .tup, .tup => true | .dct, .dct => true
  | .bl, .int => true
  | _, _ => false
def tagO : Option HO → Option Tg
  | some (.lst _) => some .lst | some (.frz _ (.lst _)) => some .lst | some (.tup _) => some .tup | some (.dK _) => some .dct | some (.dT _) => some .dct
  | _ => none
def tagV (H : Hp) : V → Option Tg
  | .non => some .non | .bl _ => some .bl | .int _ => some .int | .str _ => some .str | .ref a => tagO (H a)
  | _ => none
theorem kit_tags (K : PySem.W.Frag) : ∀ t c : Tg, c ≠ .non → PySem.W.kitOne K (.type t.name) (.type c.name) = some (t.sub c) := by
  intro t c h
  cases t <;> cases c <;> first
    | exact absurd rfl h
    | rfl
    | kernel_rfl
    | decide +kernel
theorem tag_ty {K : PySem.W.Frag} {H : Hp} {x : V} {t : Tg} (h : tagV H x = some t) : TyOf K H x (.type t.name) := by
  cases x with
  | non => cases h; exact .non
  | bl b => cases h; exact .bl b
  | int i => cases h; exact .int i
  | str z => cases h; exact .str z
  | ref a =>
    have h' : tagO (H a) = some t := h
    cases e : H a with
    | none => rw [e] at h'; cases h'
    | some o =>
      rw [e] at h'
      cases o with
      | lst xs => cases h'; exact .lst e
      | tup xs => cases h'; exact .tup e
      | dK kvs => cases h'; exact .dK e
      | dT kvs => cases h'; exact .dT e
      | frz ob u => cases u with
        | lst xs => cases h'; exact .frz e
        | _ => cases h'
      | _ => cases h'
  | _ => cases h
def rIsiC (c : Tg) : List V → Hp → VK → Prop := fun vs H Q => match vs with
  | [x, .ty n] => n = c.name ∧ ∃ t, tagV H x = some t ∧ Q (.bl (t.sub c)) H
  | _ => False
theorem call_isiC {X : Cx} (c : Tg) (hc : c ≠ .non := by decide) : CallR X (.builtin "isinstance") (rIsiC c) := by
  intro pins s σ H xs us Q I r h
  match xs, h with
  | [x, .ty n], h =>
    obtain ⟨rfl, t, ht, q⟩ := h
    exact call_isi pins s σ H _ us Q I r ⟨x, _, _, _, rfl, tag_ty ht, kit_tags X.K t c hc, q⟩
def rSlX (K : PySem.W.Frag) : V → Option Int → Option Int → Hp → VK → Prop := fun x lo hi H Q => match x with
  | .ref a => ∃ xs, SqL K H a xs ∧ nw H (.lst (cutV xs lo hi)) Q
  | _ => False
theorem small_line {n : Nat} (h : n ≤ 100000) : n < sizeLine := Nat.lt_of_le_of_lt h (by decide)
section
variable {X : Cx} {K : PySem.W.Frag}
theorem op_eqK (hK : X.K = K) (hu : X.A.units < cLine) : OpR X (compareOp .Eq) (rEqX K) := hK ▸ op_eqX hu
theorem op_neK (hK : X.K = K) (hu : X.A.units < cLine) : OpR X (compareOp .NotEq) (rNeX K) := hK ▸ op_neX hu
theorem ix_K (hK : X.K = K) : IxR X (rIxX K) := hK ▸ ix_X
theorem call_lenK (hK : X.K = K) : CallR X (.builtin "len") (rLenX K) := hK ▸ call_lenX
theorem call_allK (hK : X.K = K) (hc : X.calm = true) : CallR X (.builtin "all") (rAll K) := hK ▸ call_allB hc
theorem call_listK (hK : X.K = K) (hc : X.calm = true) : CallR X (.type "list") (rListX K) := hK ▸ call_listX hc
theorem pe_bmK {o e : Expr} {es : List Expr} {to : TE} {t : TA} {name : Str} {apos cpos : Pos} {T id : String} {r : V → List V → Hp → VK → Prop} (hK : X.K = K) (pa : PlainAttrs T) (slot : Slot T name id) (hty : typeOf (.builtin id) = pure (.type "method_descriptor"))
    (hm : MtR X id r) (ho : PE X o to) (ha : PA X (e :: es) t)
    (hbase : attributeBase o name X.env (eval o X.env) = eval o X.env := by rfl)
    (hfew : ((backTo cpos (starEach (e :: es) X.env)).all (fun x => !x.1) && (backToKw cpos (keywordEach [] X.env)).all (fun x => x.1.isSome)
      && decide ((e :: es).length + ([] : List Keyword).length + (if ([] : List Keyword).isEmpty then 0 else 1) < 30)) = true := by rfl)
    (hline : (apos.endLine == cpos.line) = true := by rfl) (hs : starEach (e :: es) X.env = (false, eval e X.env) :: starEach es X.env := by rfl) (hplain : (backTo cpos (starEach es X.env)).any (·.1) = false := by rfl) :
    PE X (.Call (.Attribute o name apos) (e :: es) [] cpos) (tBM K T r to t) := hK ▸ pe_bm pa slot hty hm ho ha hbase hfew hline hs hplain
end
end L2

namespace L2
open PySem PySem.Spec PyProof.Rows
def noStar : Expr → Bool
  | .Starred _ _ => false
  | _ => true
def noStars (es : List Expr) : Bool := es.all noStar
theorem starEach_cons {e : Expr} {es : List Expr} {env : Env} (h : noStar e = true) : starEach (e :: es) env = (false, eval e env) :: starEach es env := by
  cases e <;> first
    | rfl
    | cases h
theorem noStars_tail {e : Expr} {es : List Expr} (h : noStars (e :: es) = true) : noStar e = true ∧ noStars es = true := by
  unfold noStars at h ⊢
  rw [List.all_cons, Bool.and_eq_true] at h
  exact h
theorem backTo_any {pos : Pos} {env : Env} : ∀ {es : List Expr}, noStars es = true → (backTo pos (starEach es env)).any (·.1) = false
  | [], _ => rfl
  | e :: es, h => by
    obtain ⟨h1, h2⟩ := noStars_tail h
    rw [starEach_cons h1]
    show (false || (backTo pos (starEach es env)).any (·.1)) = false
    rw [backTo_any h2]; rfl
theorem backTo_all {pos : Pos} {env : Env} : ∀ {es : List Expr}, noStars es = true → (backTo pos (starEach es env)).all (fun x => !x.1) = true
  | [], _ => rfl
  | e :: es, h => by
    obtain ⟨h1, h2⟩ := noStars_tail h
    rw [starEach_cons h1]
    show (true && (backTo pos (starEach es env)).all (fun x => !x.1)) = true
    rw [backTo_all h2]; rfl
section
variable {X : Cx} {K : PySem.W.Frag}
theorem pvL (i : Nat) {x : Str} {pos : Pos} (hN : X.N[i]? = some x := by kernel_rfl) (hv : X.env.scope.names.lookup x = some .local := by kernel_rfl) (hd : (x == ("__debug__" : Str)) = false := by kernel_rfl)
    (hcd : (x == ("__classdict__" : Str)) = false := by kernel_rfl) : PE X (.Name x pos) (tVar i) := pe_var hN (.inl hv) hd hcd
theorem pa_c {e : Expr} {es : List Expr} {te : TE} {t : TA} (ha : PE X e te) (hr : PA X es t) (hs : noStar e = true := by kernel_rfl) : PA X (e :: es) (tCons te t) := pa_cons ha hr (starEach_cons hs)
theorem pe_callG {CX : CXT} {E : St → XK} {k : Nat} {x : Str} {ps : List Str} {sp : Sp} {e : Expr} {es : List Expr} {t : TA} {p pos : Pos} (C : Fnc X.prog X.w X.K X.mg X.base CX k x ps sp) (hx : Passes CX X E) (hr : Room k X.A) (ha : PA X (e :: es) t)
    (hg : X.env.kindOf x = some .globalImplicit := by kernel_rfl) (hd : (x == ("__debug__" : Str)) = false := by kernel_rfl) (hs : noStars (e :: es) = true := by kernel_rfl) : PE X (.Call (.Name x p) (e :: es) [] pos) (tCall sp [] E t) :=
  pe_callF C hx hr hg ha hd (starEach_cons (noStars_tail hs).1) (backTo_any (noStars_tail hs).2)
theorem pe_callBG {x : Str} {p pos : Pos} {e : Expr} {es : List Expr} {t : TA} {id : String} {r : List V → Hp → VK → Prop} (hc : CallR X (.builtin id) r) (hm : X.mg x = none) (hv : bootBuiltins x = some (.builtin id)) (ha : PA X (e :: es) t)
    (hg : X.env.kindOf x = some .globalImplicit := by kernel_rfl) (hn : x ≠ "__name__" := by decide +kernel) (hd : (x == ("__debug__" : Str)) = false := by kernel_rfl) (hs : noStars (e :: es) = true := by kernel_rfl) : PE X (.Call (.Name x p) (e :: es) [] pos) (tCB r t) :=
  pe_callB hc hg hm hv ha hn hd (starEach_cons (noStars_tail hs).1) (backTo_any (noStars_tail hs).2)
theorem pe_callTyG {x : Str} {p pos : Pos} {e : Expr} {es : List Expr} {t : TA} {T : String} {r : List V → Hp → VK → Prop} (hc : CallR X (.type T) r) (hm : X.mg x = none) (hv : bootBuiltins x = some (.type T)) (ha : PA X (e :: es) t)
    (hg : X.env.kindOf x = some .globalImplicit := by kernel_rfl) (hn : x ≠ "__name__" := by decide +kernel) (hd : (x == ("__debug__" : Str)) = false := by kernel_rfl) (hs : noStars (e :: es) = true := by kernel_rfl) : PE X (.Call (.Name x p) (e :: es) [] pos) (tCB r t) :=
  pe_callTy hc hg hm hv ha hn hd (starEach_cons (noStars_tail hs).1) (backTo_any (noStars_tail hs).2)
theorem pe_tyG {x : Str} {T : String} {pos : Pos} (hm : X.mg x = none) (hv : bootBuiltins x = some (.type T)) (hg : X.env.kindOf x = some .globalImplicit := by kernel_rfl) (hn : x ≠ "__name__" := by decide +kernel) (hd : (x == ("__debug__" : Str)) = false := by kernel_rfl) :
    PE X (.Name x pos) (tC (.ty T)) := pe_ty hg hm hv hn hd
theorem ps_setL {i : Nat} {x : Str} {e : Expr} {te : TE} {pos pos' : Pos} (hN : X.N.Nodup) (he : PE X e te) (hi : X.N[i]? = some x := by kernel_rfl) (hx : X.env.scope.names.lookup x = some .local := by kernel_rfl)
    (hs : swapsWith e (some (.Name x pos')) pos.line X.env = pure false := by kernel_rfl) : PS X (.Assign [.Name x pos'] e pos) (tAsg te (gName i)) := ps_set hN hi (.inl hx) he hs (.inr hx)
theorem pg_nameL {i : Nat} {x : Str} {pos : Pos} (hN : X.N.Nodup) (hi : X.N[i]? = some x := by kernel_rfl) (hx : X.env.scope.names.lookup x = some .local := by kernel_rfl) : PG X (.Name x pos) (gName i) := pg_name hN hi (.inl hx) (.inr hx)
theorem pi_range1G {tg a : Expr} {ta : TA} {p pos : Pos} (hm : X.mg "range" = none) (ha : PA X [a] ta) (hg : X.env.kindOf "range" = some .globalImplicit := by kernel_rfl) (hs : noStar a = true := by kernel_rfl) : PI X tg (.Call (.Name "range" p) [a] [] pos) (iRng1 ta) :=
  pi_range1 hg hm ha (starEach_cons hs)
theorem pe_bmG {o e : Expr} {es : List Expr} {to : TE} {t : TA} {name : Str} {apos cpos : Pos} {T id : String} {r : V → List V → Hp → VK → Prop} (hK : X.K = K) (pa : PlainAttrs T) (slot : Slot T name id) (hty : typeOf (.builtin id) = pure (.type "method_descriptor"))
    (hm : MtR X id r) (ho : PE X o to) (ha : PA X (e :: es) t)
    (hbase : attributeBase o name X.env (eval o X.env) = eval o X.env := by kernel_rfl) (hs : noStars (e :: es) = true := by kernel_rfl) (hlen : decide ((e :: es).length < 30) = true := by kernel_rfl)
    (hline : (apos.endLine == cpos.line) = true := by kernel_rfl) : PE X (.Call (.Attribute o name apos) (e :: es) [] cpos) (tBM K T r to t) := by
  refine pe_bmK hK pa slot hty hm ho ha hbase ?_ hline (starEach_cons (noStars_tail hs).1) (backTo_any (noStars_tail hs).2)
  rw [backTo_all hs]
  show (true && true && decide ((e :: es).length + 0 + 0 < 30)) = true
  rw [Bool.true_and, Bool.true_and]; exact hlen
end
end L2

namespace L2
open PySem PySem.Spec PyProof.Rows
def tx (l : List Nat) : Str := ⟨l.toArray⟩
theorem tx_cps (l : List Nat) : (tx l).cps.toList = l := by unfold tx; simp
theorem tx_len (l : List Nat) : (tx l).length = l.length := by show l.toArray.size = _; simp
theorem tx_of (x : Str) : tx x.cps.toList = x := by unfold tx; simp
theorem tx_app (a b : List Nat) : tx a ++ tx b = tx (a ++ b) := by
  show Str.mk (a.toArray ++ b.toArray) = Str.mk (a ++ b).toArray
  simp
theorem tx_inj {a b : List Nat} (h : tx a = tx b) : a = b := by have := congrArg (fun x : Str => x.cps.toList) h; simpa [tx] using this
theorem len_cps (x : Str) : x.length = x.cps.toList.length := by show x.cps.size = _; simp
def Itx (z : Str) : It := ⟨fun i _ => i < z.cps.size, fun i H v H' => H' = H ∧ ∃ c, z.cps[i]? = some c ∧ v = .str ⟨#[c]⟩, fun i _ => z.cps.size ≤ i⟩
theorem turn_str {P : Program} {w : World} {K : PySem.W.Frag} {tg : Expr} (n : String) (hn : n = "str_ascii_iterator" ∨ n = "str_iterator") (z : Str) (t : Tok) (it : Addr) : Turn P w K tg (Itx z) [it] it (fun i h => h.IsStrIter it n z t i) where
  mem := by simp
  obj := fun i h st b hb => by
    have e : b = it := by simpa using hb
    subst e
    obtain ⟨o, e, c, d⟩ := st
    exact ⟨o, e, fun v z => by rw [d] at z; cases z⟩
  keep := fun i h h' st k => by
    obtain ⟨o, e, c, d⟩ := st
    exact ⟨o, k it (by simp) o e, c, d⟩
  item := by
    intro X hP hw hK hc i pins s σ H E I hf st hg
    subst hP hw hK
    have hg' : i < z.cps.size := hg
    have hx : z.cps[i]? = some z.cps[i] := Array.getElem?_eq_getElem hg'
    obtain ⟨f0, f1, f2, f3, f4, f5⟩ := hf it (by simp)
    have go : ∀ h', h'.IsStrIter it n z t (i + 1) → Heap.SameBut it s.heap h' → ∃ u, some (Value.str ⟨#[z.cps[i]]⟩ s.toks) = some u ∧
        wpAny (model X.prog X.w) X.A (letOwnedTupleGo tg (.ref it) u) (fun _ s2 => ∃ x H', Inv X pins σ H' s2 ∧ RelV x u ∧ (Itx z).yld i H x H' ∧ s2.heap.IsStrIter it n z t (i + 1) ∧ ∀ b ∈ [it], H' b = none) E { s with heap := h', toks := s.toks + 1 } := fun h' st' sb => by
      have I1 : Inv X pins σ H { s with heap := h', toks := s.toks + 1 } := I.turned (t' := s.toks + 1) (fun b o hb e => (sb.2 b hb).trans e) f0 f1 f3 f4 f5
      obtain ⟨o, e, c, d⟩ := id st'
      exact ⟨_, rfl, go_of (s := { s with heap := h', toks := s.toks + 1 }) e c d (by rcases hn with rfl | rfl <;> decide) ⟨.str ⟨#[z.cps[i]]⟩, H, I1, ⟨_, rfl⟩, ⟨rfl, _, hx, rfl⟩, st', fun b hb => (hf b hb).1⟩⟩
    rcases hn with rfl | rfl
    · exact wpAny_pyNext_ascii_item st hx go
    · exact wpAny_pyNext_wide_item st hx go
  done := by
    intro X hP hw hK hc i pins s σ H E I hf st hg
    subst hP hw hK
    have hx : z.cps[i]? = none := Array.getElem?_eq_none hg
    obtain ⟨f0, f1, f2, f3, f4, f5⟩ := hf it (by simp)
    have go : ∀ h', Heap.ExtBut it s.heap h' → (none : Option Value) = none ∧ Inv X pins σ H { s with heap := h' } := fun h' eb =>
      ⟨rfl, I.turned (t' := s.toks) (fun b o hb e => eb b o hb e) f0 f1 f3 f4 f5⟩
    rcases hn with rfl | rfl
    · exact wpAny_pyNext_ascii_end (I.ok.hd hc) st hx go
    · exact wpAny_pyNext_wide_end (I.ok.hd hc) st hx go
  self := fun _ _ _ _ _ st h => by
    rcases hn with rfl | rfl
    · exact wpAny_pyIter_striter_ascii st h
    · exact wpAny_pyIter_striter_wide st h
def iSeqV (K : PySem.W.Frag) (x : V) (H : Hp) (R : It → Hp → Prop) : Prop := match x with
  | .ref a => ((∃ xs, SqL K H a xs) ∧ R (Itl K a) H) ∨ ((∃ xs, SqT K H a xs) ∧ R (Itt K a) H)
  | .str z => R (Itx z) H
  | _ => False
def iSeqX (K : PySem.W.Frag) (te : TE) : TI := fun σ H R => te σ H fun x H1 => iSeqV K x H1 R
theorem pi_seq {X : Cx} {tg l : Expr} {tl : TE} (hl : PE X l tl) : PI X tg l (iSeqX X.K tl) := by
  intro pins s σ H R I h
  refine thn (hl pins s σ H _ I h) fun v s1 ⟨x, H1, I1, r1, q1⟩ => ?_
  cases x with
  | ref a =>
    cases r1
    rcases q1 with ⟨⟨xs, hq⟩, q⟩ | ⟨⟨xs, hq⟩, q⟩
    · obtain ⟨its, rv, p, hz⟩ := I1.list hq
      refine wpAny_pyIter_list p.isList ?_
      refine ⟨s1.heap.objs.size, [s1.heap.objs.size], _, _, H1, rfl, I1.kept (t' := s1.toks) fun b o e => Heap.get?_push_of_some _ e, turn_list a _, ⟨_, Heap.get?_push_size _ rfl, rfl, rfl⟩, fun b hb => ?_, q⟩
      have e : b = s1.heap.objs.size := by simpa using hb
      subst e
      exact I1.fpOk (Nat.le_refl _) (I1.hok.fresh (Nat.le_refl _))
    · obtain ⟨its, rv, p, hz⟩ := I1.tuple hq
      refine wpAny_pyIter_tuple (show s1.heap.IsTuple a its.toArray from p) ?_
      refine ⟨s1.heap.objs.size, [s1.heap.objs.size], _, _, H1, rfl, I1.kept (t' := s1.toks) fun b o e => Heap.get?_push_of_some _ e, turn_tuple a _, ⟨_, Heap.get?_push_size _ rfl, rfl, rfl⟩, fun b hb => ?_, q⟩
      have e : b = s1.heap.objs.size := by simpa using hb
      subst e
      exact I1.fpOk (Nat.le_refl _) (I1.hok.fresh (Nat.le_refl _))
  | str z =>
    obtain ⟨t, rfl⟩ := r1
    cases ha : z.cps.all (· < 128) with
    | true =>
      refine wpAny_pyIter_ascii ha ?_
      refine ⟨s1.heap.objs.size, [s1.heap.objs.size], _, _, H1, rfl, I1.kept (t' := s1.toks) fun b o e => Heap.get?_push_of_some _ e, turn_str "str_ascii_iterator" (.inl rfl) z t _, ⟨_, Heap.get?_push_size _ rfl, rfl, rfl⟩, fun b hb => ?_, q1⟩
      have e : b = s1.heap.objs.size := by simpa using hb
      subst e
      exact I1.fpOk (Nat.le_refl _) (I1.hok.fresh (Nat.le_refl _))
    | false =>
      refine wpAny_pyIter_wide ha ?_
      refine ⟨s1.heap.objs.size, [s1.heap.objs.size], _, _, H1, rfl, I1.kept (t' := s1.toks) fun b o e => Heap.get?_push_of_some _ e, turn_str "str_iterator" (.inr rfl) z t _, ⟨_, Heap.get?_push_size _ rfl, rfl, rfl⟩, fun b hb => ?_, q1⟩
      have e : b = s1.heap.objs.size := by simpa using hb
      subst e
      exact I1.fpOk (Nat.le_refl _) (I1.hok.fresh (Nat.le_refl _))
  | _ => exact False.elim q1
theorem pi_seqK {X : Cx} {K : PySem.W.Frag} {tg l : Expr} {tl : TE} (hK : X.K = K) (hl : PE X l tl) : PI X tg l (iSeqX K tl) := hK ▸ pi_seq hl
theorem ap_iSeq {σ : St} {H : Hp} {K : PySem.W.Frag} {tl : TE} {R : It → Hp → Prop} : iSeqX K tl σ H R = tl σ H fun x H1 => iSeqV K x H1 R := propext Iff.rfl
def sgs (z : Str) : List V := z.cps.toList.map fun c => V.str ⟨#[c]⟩
theorem seq_str {H1 : Hp} (z : Str) : (Itx z).Seq H1 (sgs z) := fun H s => by
  refine ⟨fun i x e => ?_, fun i hi => ?_⟩
  · unfold sgs at e
    rw [List.getElem?_map, Array.getElem?_toList] at e
    cases hc : z.cps[i]? with
    | none => rw [hc] at e; cases e
    | some c =>
      rw [hc] at e
      have e' : V.str ⟨#[c]⟩ = x := Option.some.inj e
      have hi : i < z.cps.size := by
        rcases Nat.lt_or_ge i z.cps.size with h | h
        · exact h
        · rw [Array.getElem?_eq_none h] at hc; cases hc
      exact ⟨hi, fun y H' ⟨e1, d, e2, e3⟩ => ⟨e1, by rw [hc] at e2; cases e2; rw [e3, e']⟩⟩
  · show z.cps.size ≤ i
    unfold sgs at hi
    simpa using hi
def rInX (K : PySem.W.Frag) (neg : Bool) : R2 := fun x y H Q => match y with
  | .str j => match x with
    | .str i => Q (.bl (neg != !(Builtin.Str.occurrences j i 0 j.length 1).isEmpty)) H
    | _ => False
  | .ref p => (∃ xs, Sq K H p xs ∧ flatV x = true ∧ xs.all flatV = true ∧ Q (.bl (neg != inV x xs)) H) ∨ ∃ o : Option V, DGet H p x o ∧ Q (.bl (neg != o.isSome)) H
  | _ => False
theorem op_inX {X : Cx} (hu : X.A.units + 1 < cLine) : OpR X (compareOp .In) (rInX X.K false) := by
  intro pins s σ H x y v u Q I rx ry h
  cases y with
  | str j => cases x with
    | str i =>
      refine op_in_str pins s σ H _ _ v u Q I rx ry ⟨i, j, rfl, rfl, ?_⟩
      have h' : Q (.bl (false != !(Builtin.Str.occurrences j i 0 j.length 1).isEmpty)) H := h
      rwa [Bool.false_bne] at h'
    | _ => exact False.elim h
  | ref p =>
    rcases h with ⟨xs, hs, fx, fxs, q⟩ | ⟨o, hg, q⟩
    · rw [Bool.false_bne] at q
      exact op_in_seq pins s σ H _ _ v u Q I rx ry ⟨p, xs, rfl, hs, fx, fxs, q⟩
    · rw [Bool.false_bne] at q
      cases ry
      exact d_in hu I hg rx fun s' I' => ⟨.bl _, H, I', rfl, q⟩
  | _ => exact False.elim h
theorem op_inK {X : Cx} {K : PySem.W.Frag} (hK : X.K = K) (hu : X.A.units + 1 < cLine) : OpR X (compareOp .In) (rInX K false) := hK ▸ op_inX hu
theorem in_one (x : Str) (c : Nat) : (!(Builtin.Str.occurrences x ⟨#[c]⟩ 0 x.length 1).isEmpty) = decide (c ∈ x.cps.toList) := StrLaws.found_one x c
def rIndexS : V → List V → Hp → VK → Prop := fun x vs H Q => match x, vs with
  | .str z, [.str y] => 0 ≤ Txt.find z y ∧ Q (.int (Txt.find z y)) H
  | _, _ => False
theorem strs_of {ys : List Str} : ∀ {us : List Value}, Vals (ys.map V.str) us → StrsAre us ys := by
  induction ys with
  | nil => intro us r; cases r; exact .nil
  | cons y r ih =>
    intro us h
    cases h with
    | cons h1 h2 =>
      obtain ⟨t, rfl⟩ := h1
      exact .cons _ _ (ih h2)
def rJoinS (K : PySem.W.Frag) : V → List V → Hp → VK → Prop := fun x vs H Q => match x, vs with
  | .str z, [.ref p] => ∃ ys : List Str, SqL K H p (ys.map V.str) ∧ (ys.map (·.length)).sum + ys.length * z.length ≤ 16777216 ∧ Q (.str (Txt.join z ys)) H
  | _, _ => False
theorem mt_joinS {X : Cx} : MtM X "str.join" (rJoinS X.K) := by
  intro pins s σ H x vs v us Q I rx rv h
  match x, vs, h with
  | .str z, [.ref p], h =>
    obtain ⟨ys, hs, hl, q⟩ := h
    obtain ⟨t, rfl⟩ := rx
    obtain ⟨u, rfl, ru⟩ := rv.one
    cases ru
    obtain ⟨its, rv2, pl, hz⟩ := I.list hs
    exact join_list pl.isList (by simpa using strs_of rv2) hl fun t' k => ⟨.str _, H, I.tok _, ⟨_, rfl⟩, q⟩
theorem mt_joinK {X : Cx} {K : PySem.W.Frag} (hK : X.K = K) : MtM X "str.join" (rJoinS K) := hK ▸ mt_joinS
section
variable {α β : Type}
noncomputable def pull {γ : Type} (e : α → V) (f : α → γ) (d : γ) (v : V) : γ := open Classical in if h : ∃ a, e a = v then f (Classical.choose h) else d
theorem pull_at {γ : Type} {e : α → V} (inj : ∀ a b, e a = e b → a = b) (f : α → γ) (d : γ) (a : α) : pull e f d (e a) = f a := by
  unfold pull
  have h : ∃ b, e b = e a := ⟨a, rfl⟩
  rw [dif_pos h, inj _ _ (Classical.choose_spec h)]
theorem inj_sg : ∀ a b : Nat, V.str ⟨#[a]⟩ = V.str ⟨#[b]⟩ → a = b := fun _ _ h => by cases h; rfl
theorem lc_A {J : It} {H1 : Hp} {xs : List α} {js : List Nat} {σ : St} {tc : TT} {te : TE} {Q : VK} (e : α → V) (inj : ∀ a b, e a = e b → a = b) (hJ : J.Seq H1 (xs.map e)) (hl : xs.length < sizeLine) (p : α → Bool) (f : α → V)
    (hc : ∀ x ∈ xs, ∀ H, Same H1 H → ∀ R : Bool → Hp → Prop, (∀ H', Same H H' → R (p x) H') → tc (some (e x) :: js.map fun j => (σ[j]?).join) H R)
    (he : ∀ x ∈ xs, p x = true → ∀ H, Same H1 H → ∀ R : VK, (∀ H', Same H H' → R (f x) H') → te (some (e x) :: js.map fun j => (σ[j]?).join) H R)
    (q : ∀ D H, H1 D = none → Same H1 H → H D = some (.lst ((xs.filter p).map f)) → Q (.ref D) H) : LcTurns (gName 0) tc te (blkSt 1 js σ) J H1 Q := by
  refine lc_one hJ (by rw [List.length_map]; exact hl) (pull e p false) (pull e f .non) ?_ ?_ ?_
  · intro v hv H s R hR
    obtain ⟨x, hx, rfl⟩ := List.mem_map.mp hv
    rw [pull_at inj] at hR
    exact hc x hx H s R hR
  · intro v hv hp H s R hR
    obtain ⟨x, hx, rfl⟩ := List.mem_map.mp hv
    rw [pull_at inj] at hR hp
    exact he x hx hp H s R hR
  · intro D H h1 h2 h3
    refine q D H h1 h2 ?_
    rw [h3, List.filter_map, List.map_map]
    congr 2
    have e1 : pull e f .non ∘ e = f := funext fun a => pull_at inj f .non a
    have e2 : pull e p false ∘ e = p := funext fun a => pull_at inj p false a
    rw [e1, e2]
theorem lc_M {J : It} {H1 : Hp} {xs : List α} {js : List Nat} {σ : St} {te : TE} {Q : VK} (e : α → V) (inj : ∀ a b, e a = e b → a = b) (hJ : J.Seq H1 (xs.map e)) (hl : xs.length < sizeLine) (f : α → V)
    (he : ∀ x ∈ xs, ∀ H, Same H1 H → ∀ R : VK, (∀ H', Same H H' → R (f x) H') → te (some (e x) :: js.map fun j => (σ[j]?).join) H R)
    (q : ∀ D H, H1 D = none → Same H1 H → H D = some (.lst (xs.map f)) → Q (.ref D) H) : LcTurns (gName 0) tYes te (blkSt 1 js σ) J H1 Q :=
  lc_A e inj hJ hl (fun _ => true) f (fun x _ H _ R hR => hR H (Same.refl H)) (fun x hx _ H s R hR => he x hx H s R hR) fun D H h1 h2 h3 => q D H h1 h2 (by rw [List.filter_eq_self.mpr (fun _ _ => rfl)] at h3; exact h3)
end
theorem seq_sg {H1 : Hp} (z : Str) : (Itx z).Seq H1 (z.cps.toList.map fun c => V.str ⟨#[c]⟩) := seq_str z
theorem sub_str {H : Hp} {x : V} {t : Tg} (ht : tagV H x = some t) (hs : ∀ z, x ≠ .str z) : t ≠ .str := fun e => by
  subst e
  cases x with
  | str z => exact hs z rfl
  | ref a =>
    have h' : tagO (H a) = some .str := ht
    cases e : H a with
    | none => rw [e] at h'; cases h'
    | some o => rw [e] at h'; cases o with
      | frz ob u => cases u <;> cases h'
      | _ => cases h'
  | _ => cases ht
theorem cut_seq {t u : TS} {D : Ends} {σ : St} {H : Hp} (R : St → Hp → Prop) (h2 : ∀ σ' H', R σ' H' → u D σ' H') (h1 : ∀ U : St → Hp → Prop, (∀ σ' H', R σ' H' → U σ' H') → t { D with nx := U } σ H) : tSeq t u D σ H := h1 _ h2
theorem atI_of {α : Type} {l : List α} {i : Int} {v : α} (h0 : 0 ≤ i) (h1 : l[i.toNat]? = some v) : atI l i = some v := by
  have := atI_nat h1
  rwa [Int.toNat_of_nonneg h0] at this
theorem abc_codes : (Str.ofString "abcdefghijklmnopqrstuvwxyz").cps.toList = List.range' 97 26 := by decide +kernel
end L2

namespace L2
open PySem PySem.Spec PyProof.Rows
def DK (h h' : Heap) : Prop := ∀ b o, h.get? b = some o → ∃ o', h'.get? b = some o' ∧ o'.cls = o.cls ∧ o'.dict = o.dict ∧ (∀ vs, o.data = .fields vs → ∃ vs', o'.data = .fields vs')
theorem DK.refl (h : Heap) : DK h h := fun b o e => ⟨o, e, rfl, rfl, fun vs q => ⟨vs, q⟩⟩
theorem DK.trans {h1 h2 h3 : Heap} (x : DK h1 h2) (y : DK h2 h3) : DK h1 h3 := fun b o e => by
  obtain ⟨o1, e1, c1, d1, f1⟩ := x b o e
  obtain ⟨o2, e2, c2, d2, f2⟩ := y b o1 e1
  exact ⟨o2, e2, c2.trans c1, d2.trans d1, fun vs q => by obtain ⟨v1, q1⟩ := f1 vs q; exact f2 v1 q1⟩
theorem DK.push (h : Heap) (o : Obj) : DK h (h.push o) := fun b u e => ⟨u, Heap.get?_push_of_some _ e, rfl, rfl, fun vs q => ⟨vs, q⟩⟩
structure KD {α : Type} (m : Sem α) : Prop where
  out : ∀ (M : Model) (Γ : PySem.Ctx) (P : α → Pos → Shared → Prop) (Ee : Value → Pos → Shared → Prop) (p : Pos) (s : Shared), Sem.wp M Γ m P Ee p s →
    Sem.wp M Γ m (fun a p' s' => P a p' s' ∧ DK s.heap s'.heap) (fun e p' s' => Ee e p' s' ∧ DK s.heap s'.heap) p s
namespace KD
variable {α β : Type}
theorem pure (a : α) : KD (Pure.pure a : Sem α) := ⟨fun _ _ _ _ _ s h => ⟨h, DK.refl _⟩⟩
theorem unsupported (w : String) : KD (PySem.unsupported w : Sem α) := ⟨fun _ _ _ _ _ _ h => h⟩
theorem bind {m : Sem α} {f : α → Sem β} (hm : KD m) (hf : ∀ a, KD (f a)) : KD (m >>= f) := ⟨fun M Γ P Ee p s h => by
  rw [Sem.wp_bind'] at h ⊢
  refine Sem.wp_mono M Γ m (fun a p' s' h' => ?_) (fun _ _ _ x => x) p s (hm.out M Γ _ _ p s h)
  refine Sem.wp_mono M Γ (f a) (fun b p2 s2 h2 => ⟨h2.1, h'.2.trans h2.2⟩) (fun e p2 s2 h2 => ⟨h2.1, h'.2.trans h2.2⟩) p' s' ((hf a).out M Γ P Ee p' s' h'.1)⟩
theorem ite {c : Prop} [Decidable c] {t u : Sem α} (ht : KD t) (hu : KD u) : KD (if c then t else u) := by split <;> assumption
theorem load (a : Addr) : KD (PySem.load a) := ⟨fun _ _ _ _ _ s h => by obtain ⟨o, e, q⟩ := h; exact ⟨o, e, q, DK.refl _⟩⟩
theorem stack : KD PySem.stack := ⟨fun M Γ P Ee p s h => by
  unfold PySem.stack at h ⊢
  rw [Sem.wp_stack] at h ⊢
  exact ⟨h, DK.refl _⟩⟩
theorem alloc (o : Obj) : KD (PySem.alloc o) := ⟨fun _ _ _ _ _ s h => ⟨h, DK.push _ _⟩⟩
theorem field (v : Value) (i : Nat) : KD (PySem.field v i) := ⟨fun _ Γ P Ee p s h => by
  rw [wp_field_iff] at h ⊢
  obtain ⟨a, o, vs, x, e1, e2, e3, e4, q⟩ := h
  exact ⟨a, o, vs, x, e1, e2, e3, e4, q, DK.refl _⟩⟩
theorem update {a : Addr} {f : Obj → Obj} (hf : ∀ o, (f o).cls = o.cls ∧ (f o).dict = o.dict ∧ (f o).isFreed = o.isFreed ∧ ∀ vs, o.data = .fields vs → ∃ vs', (f o).data = .fields vs') : KD (PySem.update a f) := ⟨fun _ _ _ _ _ s h => by
  refine ⟨h.1, h.2, fun b o e => ?_⟩
  by_cases hb : b = a
  · subst hb
    obtain ⟨h1, h2, h3, h4⟩ := hf o
    have hfr : o.isFreed = false := (Heap.get?_some_iff.mp e).2
    exact ⟨f o, Heap.get?_update_self _ e (by rw [h3]; exact hfr), h1, h2, h4⟩
  · exact ⟨o, (Heap.get?_update_other _ _ (Ne.symm hb)).trans e, rfl, rfl, fun vs q => ⟨vs, q⟩⟩⟩
theorem setField (v : Value) (i : Nat) (x : Value) : KD (PySem.setField v i x) := ⟨fun _ Γ P Ee p s h => by
  rw [wp_setField_iff] at h ⊢
  obtain ⟨a, o, vs, e1, e2, e3, e4, q⟩ := h
  refine ⟨a, o, vs, e1, e2, e3, e4, q, fun b u e => ?_⟩
  by_cases hb : b = a
  · subst hb
    rw [e2] at e
    cases e
    have hd := Obj.data_mapFields e3 (·.setIfInBounds i x)
    exact ⟨_, Heap.get?_update_self _ e2 (Obj.isFreed_of_fields hd), Obj.cls_mapFields .., by cases o with | mk c d dt sl => cases dt <;> first | rfl, fun _ _ => ⟨_, hd⟩⟩
  · exact ⟨u, (Heap.get?_update_other _ _ (Ne.symm hb)).trans e, rfl, rfl, fun vs q => ⟨vs, q⟩⟩⟩
theorem slots {a : Addr} {g : Obj → Array (Option Value)} : KD (PySem.update a fun o => { o with slots := g o }) := update fun o => ⟨rfl, rfl, by cases o with | mk c d dt sl => cases dt <;> rfl, fun vs q => ⟨vs, q⟩⟩
end KD
theorem kd_behind (env : Env) (outer : List Env) : KD (behindIsImport env outer) := by
  unfold behindIsImport
  repeat' with_reducible first | exact KD.pure _ | exact KD.field _ _ | apply KD.ite | apply KD.bind | intro _
theorem kd_caller : KD underTheClaimsCaller := by
  unfold underTheClaimsCaller
  repeat' with_reducible first | exact KD.pure _ | exact KD.stack | exact KD.unsupported _ | exact KD.field _ _ | apply KD.ite | apply KD.bind | intro _ | split
theorem kd_kept (env : Env) (i : Bool) (l : List Env) : KD (keptBack env i l) := by
  have := kd_caller
  cases l <;> unfold keptBack <;> repeat' with_reducible first | assumption | exact KD.pure _ | apply KD.ite | apply KD.bind | intro _
theorem kd_ready : ∀ l : List Env, KD (readyFrames l)
  | [] => KD.pure _
  | env :: outer => by
    have ih := kd_ready outer
    have h1 := kd_behind env outer
    have h2 := fun i => kd_kept env i outer
    unfold readyFrames
    split
    · refine KD.bind (KD.load _) fun o => KD.ite (KD.pure _) (KD.bind h1 fun b => KD.bind (h2 b) fun v => KD.bind KD.slots fun _ => ih)
    · exact KD.unsupported _
theorem kd_frameObject (l : List Env) : KD (frameObject l) := by
  cases l with
  | nil => exact KD.pure _
  | cons a r => unfold frameObject; exact KD.bind (kd_ready _) fun _ => KD.pure _
theorem kd_frameOf (env : Env) : KD (PySem.frameOf env) := by
  unfold PySem.frameOf frameEnvs
  refine KD.bind (KD.bind KD.stack fun _ => KD.pure _) fun l => KD.bind (kd_frameObject _) fun o => ?_
  cases o with
  | none => exact KD.unsupported _
  | some v => exact KD.pure _
theorem kd_place (f : Addr) (b : Bool) : KD (entryPlaceOf f b) := by
  unfold entryPlaceOf
  repeat' with_reducible first | exact KD.pure _ | exact KD.stack | exact KD.unsupported _ | apply KD.ite | apply KD.bind | intro _ | split
theorem kd_entry (a b c d e : Value) (l : List Value) : KD (EntryCells.newEntry a b c d e l) := by
  unfold EntryCells.newEntry newFields newObj newObjAsIs
  repeat' first | exact KD.pure _ | exact KD.alloc _ | exact KD.unsupported _ | apply KD.ite | apply KD.bind | intro _ | split
theorem kd_note (e : Value) (env : Env) : KD (noteFrame e env) := by
  unfold noteFrame
  have h1 := kd_frameOf env
  have h2 := kd_place
  have h3 := kd_entry
  split
  · repeat' with_reducible first | exact KD.pure _ | exact KD.field _ _ | exact KD.setField _ _ _ | exact h1 | exact h2 _ _ | exact h3 _ _ _ _ _ _ | apply KD.ite | apply KD.bind | intro _
  · exact KD.unsupported _
theorem kd_flight (e : Value) (o : Option Addr) : KD (setFlight e o) := by
  unfold setFlight
  repeat' with_reducible first | exact KD.pure _ | exact KD.field _ _ | exact KD.setField _ _ _ | apply KD.ite | apply KD.bind | intro _
theorem kd_leaving (env : Env) (e : Value) : KD (leaving env e) := by
  unfold leaving
  exact KD.bind (kd_note _ _) fun _ => kd_flight _ _
theorem KD.any {α : Type} {M : Model} {A : Around} {t : Sem α} {Q : α → Shared → Prop} {E : Value → Shared → Prop} {s : Shared} (k : KD t) (h : wpAny M A t Q E s) :
    wpAny M A t (fun a s' => Q a s' ∧ DK s.heap s'.heap) (fun e s' => E e s' ∧ DK s.heap s'.heap) s := fun Γ p hΓ => k.out M Γ _ _ p s (h Γ p hΓ)
theorem objOk_some {P : Program} {w : World} {H : Hp} {h : Heap} {a : Addr} {o : HO} (x : ObjOk P w H h a o) : ∃ u, h.get? a = some u := by
  cases o with
  | lst xs => obtain ⟨_, _, _, _, e⟩ := x; exact ⟨_, e⟩
  | tup xs => obtain ⟨_, _, _, ob, e, _⟩ := x; exact ⟨_, e⟩
  | dK kvs => obtain ⟨_, _, _, _, ob, _, _, e, _⟩ := x; exact ⟨_, e⟩
  | dT kvs => obtain ⟨_, _, _, _, ob, _, _, e, _⟩ := x; exact ⟨_, e⟩
  | set S n => obtain ⟨ob, _, _, _, e, _⟩ := x; exact ⟨_, e⟩
  | ins C dx fs => obtain ⟨_, _, _, e, _⟩ := x; exact ⟨_, e⟩
  | own y => exact x
  | xd fs => obtain ⟨_, ⟨od, _, _, e, _⟩, _⟩ := x; exact ⟨_, e⟩
  | rng lo hi => obtain ⟨_, _, _, e⟩ := x; exact ⟨_, e⟩
  | frz ob u => exact ⟨_, x.1⟩
  | tbl ps => exact ⟨_, x⟩
  | met f y => exact ⟨_, x⟩
  | ext φ => exact x.2.1
def CX1 (P : Program) (w : World) : CXT := fun outer H s E e s' => ∃ (ea C t : Addr) (B : Heap) (H' : Hp) (d : Option Addr), e = .ref ea ∧ s'.os = s.os ∧ AllBare s'.gens ∧ Un (frs outer) [] H H' s.heap s'.heap ∧ HOk P w H' s'.heap ∧
  Heap.FlyingW B outer ea (.ref C) (.ref t) s'.heap ∧ (∃ oe, s'.heap.get? ea = some oe ∧ oe.dict = d) ∧ (∀ dx, d = some dx → ∃ fs, H' dx = some (.xd fs)) ∧
  (∀ b o, s'.heap.get? b = some o → b ∉ frs outer → (H' b ≠ none ∨ ∃ u, s.heap.get? b = some u) → B.get? b = some o) ∧ E (.ref C) d H'
section
variable {X : Cx} {pins : List (Addr × Obj)} {σ : St} {H : Hp} {s : Shared}
theorem cx_leave {B h' : Heap} (I : Inv X pins σ H s) (hst : X.stack = X.env :: X.outer) (hf : X.env.frame = some X.env.locals) (hex : X.ex = []) (hB : B.StaysIn h') (hsm : s.heap.UpToSlots h')
    (hk : ∀ b o, s.heap.get? b = some o → b ∉ frs X.stack → (H b ≠ none ∨ ∃ u, X.s₀.heap.get? b = some u) → B.get? b = some o) :
    Un (frs X.outer) [] X.H₀ H X.s₀.heap h' ∧ HOk X.prog X.w H h' ∧ ∀ b o, h'.get? b = some o → b ∉ frs X.outer → (H b ≠ none ∨ ∃ u, X.s₀.heap.get? b = some u) → B.get? b = some o := by
  have hfs : frs X.stack = X.env.locals :: frs X.outer := by rw [hst]; unfold frs; rw [List.filterMap_cons, hf]
  have old : ∀ b u, X.s₀.heap.get? b = some u → b ≠ X.env.locals := fun b u e z => absurd (Nat.lt_of_lt_of_le (Heap.lt_size e) (by rw [z]; exact I.ok.above)) (Nat.lt_irrefl _)
  have nstk : ∀ b, b ≠ X.env.locals → b ∉ frs X.outer → b ∉ frs X.stack := fun b h1 h2 z => by rw [hfs] at z; rcases List.mem_cons.mp z with z | z; exact h1 z; exact h2 z
  have trk : ∀ b, H b ≠ none → b ∉ frs X.stack := fun b h1 z => h1 (I.stkFree b z)
  have nx : ∀ b : Addr, b ∉ X.ex := fun b => by rw [hex]; simp
  have fr : ∀ b, b ∈ frs X.outer → ∃ o, s.heap.get? b = some o ∧ ∀ vs, o.data ≠ .fields vs := fun b hb => (I.stack.mem (show b ∈ frs X.stack by rw [hfs]; exact List.mem_cons_of_mem _ hb)).2
  have tkeep : ∀ b o, H b ≠ none → s.heap.get? b = some o → h'.get? b = some o := fun b o h1 e => hB b o (hk b o e (trk b h1) (.inl h1))
  have okeep : ∀ b o u, X.s₀.heap.get? b = some u → b ∉ frs X.outer → s.heap.get? b = some o → h'.get? b = some o := fun b o u e0 h2 e => hB b o (hk b o e (nstk b (old b u e0) h2) (.inr ⟨u, e0⟩))
  refine ⟨⟨fun b o e n hb _ => ?_, fun b o e n hb _ => ?_, fun b o e n _ => I.base.free b o e n (nx b), fun b o e _ => ?_, I.base.tups, I.base.frzs, I.base.tbls⟩, fun a o e => ?_, fun b o e hb hc => ?_⟩
  · exact okeep b o o e hb (I.base.keep b o e n hb (nx b))
  · obtain ⟨sl, e1⟩ := I.base.slot b o e n hb (nx b)
    obtain ⟨o1, e2, hd⟩ := fr b hb
    rw [e1] at e2
    cases e2
    obtain ⟨sl', e3⟩ := hsm b _ e1 hd
    exact ⟨sl', e3⟩
  · obtain ⟨o1, e1⟩ := I.base.there b o e (nx b)
    by_cases hb : b ∈ frs X.outer
    · obtain ⟨o2, e2, hd⟩ := fr b hb
      obtain ⟨sl', e3⟩ := hsm b _ e2 hd
      exact ⟨_, e3⟩
    · exact ⟨o1, okeep b o1 o e hb e1⟩
  · refine (I.hok a o e).stay (fun c v hc q => tkeep c v ?_ q) (fun _ q => q) fun _ _ q => q
    rcases hc with z | z
    · rw [z, e]; simp
    · rw [z]; simp
  · rcases hc with h1 | ⟨u, e0⟩
    · cases q : H b with
      | none => exact absurd q h1
      | some ob =>
        obtain ⟨o1, e1⟩ := objOk_some (I.hok b ob q)
        have := tkeep b o1 h1 e1
        rw [e] at this
        cases this
        exact hk b o e1 (trk b h1) (.inl h1)
    · obtain ⟨o1, e1⟩ := I.base.there b u e0 (nx b)
      have := okeep b o1 u e0 hb e1
      rw [e] at this
      cases this
      exact hk b o e1 (nstk b (old b u e0) hb) (.inr ⟨u, e0⟩)
end
section
variable {P : Program} {w : World} {K : PySem.W.Frag} {mg : Str → Option Value} {base : Heap} {N : List Str} {qual : Str} {scope : Scope} {f : Addr} {cd : Value} {A : Around} {outer : List Env} {s : Shared} {H : Hp} {E : XK}
theorem pass_def : Passes (CX1 P w) (cxOf (CX1 P w) P w K mg base N qual scope f cd A outer s H E) (fun _ => E) := by
  intro pins σ H1 s1 e s' I h
  obtain ⟨ea, C, t, B, H', d, rfl, os, bare, un, hok, fl, ⟨oe, hoe, hdo⟩, hdx, hkb, hE⟩ := h
  have I' := I.call' (ch := []) os un hok bare (fun b z => absurd z (by simp))
  show wpAny _ _ _ _ _ _
  refine wpAny_mono (KD.any (E := fun _ _ => False) (kd_leaving _ _) (wpAny_leaves_onW (Q := fun _ s'' => ∃ h', s'' = { s' with heap := h' } ∧ Heap.FlyingW B outer ea (.ref C) (.ref t) h' ∧ s'.heap.UpToSlots h') I.ok.frames rfl fl fun h' x1 x2 => ⟨h', rfl, x1, x2⟩)) ?_ (fun _ _ z => False.elim z.1)
  rintro _ s'' ⟨⟨h', rfl, x1, x2⟩, dk⟩
  obtain ⟨u1, u2, u3⟩ := cx_leave (B := B) (h' := h') I' rfl rfl rfl x1.1 x2 (fun b o e1 e2 e3 => hkb b o e1 e2 (e3.elim .inl fun ⟨u, e0⟩ => .inr (I.base.there b u e0 (by show b ∉ ([] : List Addr); simp))))
  obtain ⟨oe', hoe', _, hd', _⟩ := dk ea oe hoe
  exact ⟨ea, C, t, B, H', d, rfl, I'.os, I'.bare, u1, u2, x1, ⟨oe', hoe', hd'.trans hdo⟩, hdx, u3, hE⟩
end
theorem passE0 {P : Program} {w : World} {X : Cx} : Passes (CX1 P w) X E0 := fun _ _ _ _ _ _ _ h => by
  obtain ⟨_, _, _, _, _, _, _, _, _, _, _, _, _, _, _, z⟩ := h
  exact z.elim
theorem cx1_false {P : Program} {w : World} {outer : List Env} {H : Hp} {s : Shared} {e : Value} {s' : Shared} (h : CX1 P w outer H s (fun _ _ _ => False) e s') : False := by
  obtain ⟨_, _, _, _, _, _, _, _, _, _, _, _, _, _, _, z⟩ := h
  exact z
section
variable {P : Program} {w : World} {K : PySem.W.Frag} {mg : Str → Option Value} {base : Heap}
theorem Fun.okX {x qual : Str} {st : Stmt} {f : Addr} {fd : FuncData} {N ps : List Str} {k : Nat} {sp : Sp} (F : Fun K x qual st f fd) (S : FnScope N ps (defScope st)) (len : ∀ vs H Q E, sp vs H Q E → vs.length = ps.length)
    (hbody : ∀ (cdv : Value) (A : Around) (outer : List Env) (s : Shared) (H : Hp) (vs : List V) (Q : VK) (E : XK), Room k (A.deeper (envOfC qual (defScope st) s.heap.objs.size f cdv)) → sp vs H Q E →
      ∃ t, PSs (cxOf (CX1 P w) P w K mg base N qual (defScope st) f cdv A outer s H E) (defBody st) t ∧ t { nx := fun _ H' => Q .non H', rt := Q } (start N vs) H) : FnOk P w K mg base (CX1 P w) (k + 1) f fd ps sp := by
  obtain ⟨oc, od, kV, doc, pm, an, cdv, ct, osl, rfl, lk, hcd⟩ := F.ex
  exact fn_of lk hcd S len fun A outer s H vs Q E hr hsp => hbody cdv A outer s H vs Q E hr hsp
theorem FnOkN.ok {CX : CXT} {k : Nat} {f : Addr} {fd : FuncData} {ps : List Str} {sp : Sp} (F : FnOkN P w K mg base CX k f fd ps sp) : FnOk P w K mg base CX k f fd ps sp :=
  ⟨F.len, fun A outer s H args us vs Q E hr => F.run A outer s H args us vs Q E hr.n⟩
end
def sRaise (C : Addr) (E : St → XK) (t : TA) : TS := fun _ σ H => t σ H fun vs H1 => vs.length ≤ sizeLine ∧ E σ (.ref C) none H1
theorem ap_raise {C : Addr} {E : St → XK} {t : TA} {D : Ends} {σ : St} {H : Hp} : sRaise C E t D σ H = t σ H fun vs H1 => vs.length ≤ sizeLine ∧ E σ (.ref C) none H1 := propext Iff.rfl
section
variable {X : Cx}
end
end L2

namespace L2
open PySem PySem.Spec PyProof.Rows
def excO (a : Addr) (c : Value) (d : Option Addr) : HO := .ext fun h => ∃ o, h.get? a = some o ∧ o.cls = c ∧ o.dict = d ∧ ∃ vs, o.data = .fields vs
section
variable {X : Cx} {pins : List (Addr × Obj)} {σ : St} {H : Hp} {s : Shared}
def Ends.un (D : Ends) (i : Nat) : Ends := ⟨fun σ H => D.nx (σ.set i none) H, D.rt, fun σ H => D.bk (σ.set i none) H, fun σ H => D.ct (σ.set i none) H⟩
def sTry (K : PySem.W.Frag) (tb : (St → XK) → TS) (CE : Addr) (i : Nat) (th : TS) : TS := fun D σ H =>
  tb (fun σ' c d H' => PySem.W.exmOne K c (.ref CE) = some true ∧ ∀ ea H2, H' ea = none → Same H' H2 → H2 ea = some (excO ea c d) → th (D.un i) (σ'.set i (some (.ref ea))) H2) D σ H
end
end L2

namespace L2
open PySem PySem.Spec PyProof.Rows
structure ExcC (K : PySem.W.Frag) (C : Addr) : Prop where
  ga : PySem.W.findIn K (.ref C) "__getattribute__" = some (some (.builtin "BaseException.__getattribute__"))
  gn : PySem.W.findIn K (.ref C) "__getattr__" = some none
  sb : PySem.W.subIn K (.ref C) (.type "BaseException") = some true
  cl : (PySem.W.clsIn K C).isSome = true
  ha : PySem.W.findIn K (.ref C) "__class__" = some (some (.builtin "object.__class__"))
  hn : PySem.W.specialIn K (.builtin "object.__class__") "__get__" = some (some (.builtin "getset_descriptor.__get__"))
  htk : PySem.W.takesIn K (.builtin "object.__class__") = some true
  hm : PySem.W.mroIn K C (.type "object") = some true
def TyX (K : PySem.W.Frag) (H : Hp) (x : V) (t : Value) : Prop := TyOf K H x t ∨ ∃ a C, x = .ref a ∧ t = .ref C ∧ H a = some (excO a (.ref C) none) ∧ ExcC K C
def rIsiG (K : PySem.W.Frag) : List V → Hp → VK → Prop := fun vs H Q => match vs with
  | [x, .ty n] => ∃ t b, TyX K H x t ∧ PySem.W.kitOne K t (.type n) = some b ∧ Q (.bl b) H
  | [x, .ref c] => ∃ t b, TyX K H x t ∧ (PySem.W.kitOne K t (.ref c) = some b ∨ ∃ (a C : Addr) (cs : List Addr), x = .ref a ∧ t = .ref C ∧ H a = some (excO a (.ref C) none) ∧ ExcC K C ∧ H c = some (.tup (cs.map V.ref)) ∧ PySem.W.kitAny K t (cs.map Value.ref) = some b) ∧ Q (.bl b) H
  | _ => False
structure Err (K : PySem.W.Frag) (b : Addr) (cs : List Addr) (c : Addr) : Prop where
  ex : ExcC K c
  em : PySem.W.exmOne K (.ref c) (.ref b) = some true
  ve : PySem.W.kitOne K (.ref c) (.type "ValueError") = some true
  ba : PySem.W.kitOne K (.ref c) (.ref b) = some true
  kd : ∀ d ∈ cs, PySem.W.kitOne K (.ref c) (.ref d) = some (c == d)
theorem Err.any {K : PySem.W.Frag} {b : Addr} {cs : List Addr} {c : Addr} (E : Err K b cs c) : ∀ {ds : List Addr}, (∀ d ∈ ds, d ∈ cs) → PySem.W.kitAny K (.ref c) (ds.map Value.ref) = some (ds.contains c)
  | [], _ => rfl
  | d :: r, h => by
    show (match PySem.W.kitOne K (.ref c) (.ref d) with | some true => some true | some false => PySem.W.kitAny K (.ref c) (r.map Value.ref) | none => none) = _
    rw [E.kd d (h d List.mem_cons_self), Err.any E (fun x hx => h x (List.mem_cons_of_mem _ hx)), List.contains_cons]
    cases (c == d) <;> rfl
theorem pe_globE {X : Cx} {x : Str} {v : V} {pos : Pos} (h : ∃ u, X.mg x = some u ∧ RelV v u) (hg : X.env.kindOf x = some .globalImplicit := by kernel_rfl) (hd : (x == ("__debug__" : Str)) = false := by kernel_rfl) : PE X (.Name x pos) (tC v) := by
  obtain ⟨u, h1, h2⟩ := h
  exact pe_glob hg h1 h2 hd
theorem ap_try {K : PySem.W.Frag} {tb : (St → XK) → TS} {CE : Addr} {i : Nat} {th : TS} {D : Ends} {σ : St} {H : Hp} : sTry K tb CE i th D σ H =
  tb (fun σ' c d H' => PySem.W.exmOne K c (.ref CE) = some true ∧ ∀ ea H2, H' ea = none → Same H' H2 → H2 ea = some (excO ea c d) → th (D.un i) (σ'.set i (some (.ref ea))) H2) D σ H := propext Iff.rfl
end L2

namespace L2
open PySem PySem.Spec PyProof.Rows
def up (t : TE) : TE := fun σ H R => ∃ R', t σ H R' ∧ ∀ x H, R' x H → R x H
def upA (t : TA) : TA := fun σ H R => ∃ R', t σ H R' ∧ ∀ x H, R' x H → R x H
theorem PE.up {X : Cx} {e : Expr} {t : TE} (h : PE X e t) : PE X e (up t) := fun pins s σ H Q I ⟨R', h1, h2⟩ => thn (h pins s σ H R' I h1) fun _ _ ⟨v, H', I', r, q⟩ => ⟨v, H', I', r, h2 v H' q⟩
theorem PA.up {X : Cx} {es : List Expr} {t : TA} (h : PA X es t) : PA X es (upA t) := fun pos pins s σ H Q I ⟨R', h1, h2⟩ => thn (h pos pins s σ H R' I h1) fun _ _ ⟨v, H', I', r, q⟩ => ⟨v, H', I', r, h2 v H' q⟩
def rFldX (K : PySem.W.Frag) (f : Str) (x : V) (H : Hp) (Q : VK) : Prop := match x with
  | .ref a => ∃ C dx fs v, H a = some (.ins C dx fs) ∧ Cls K C ∧ NoAttr K C f ∧ fs.lookup f = some v ∧ Q v H
  | _ => False
def tFldX (K : PySem.W.Frag) (ta : TE) (f : Str) : TE := fun σ H Q => ta σ H fun x H1 => rFldX K f x H1 Q
theorem ap_fld {K : PySem.W.Frag} {ta : TE} {f : Str} {σ : St} {H : Hp} {Q : VK} : tFldX K ta f σ H Q = ta σ H fun x H1 => rFldX K f x H1 Q := propext Iff.rfl
def rSetX (K : PySem.W.Frag) (f : Str) (y x : V) (H : Hp) (Q : Hp → Prop) : Prop := match x with
  | .ref a => ∃ C dx fs, H a = some (.ins C dx fs) ∧ Cls K C ∧ NoAttr K C f ∧ fs.length < 1000 ∧ Q (upd H a (.ins C dx (putF f y fs)))
  | _ => False
def sFldX (K : PySem.W.Frag) (ta tv : TE) (f : Str) : TS := fun D σ H => tv σ H fun y H1 => ta σ H1 fun x H2 => rSetX K f y x H2 fun H3 => D.nx σ H3
theorem ap_sfld {K : PySem.W.Frag} {ta tv : TE} {f : Str} {D : Ends} {σ : St} {H : Hp} : sFldX K ta tv f D σ H = tv σ H fun y H1 => ta σ H1 fun x H2 => rSetX K f y x H2 fun H3 => D.nx σ H3 := propext Iff.rfl
section
variable {X : Cx} {K : PySem.W.Frag}
end
def rMethX (C : Addr) (m : Str) (x : V) (H : Hp) (Q : Hp → Prop) : Prop := match x with
  | .ref a => ∃ dx fs, H a = some (.ins C dx fs) ∧ fs.lookup m = none ∧ Q H
  | _ => False
def tMethX (C : Addr) (m : Str) (sp : Sp) (E : St → XK) (ta : TE) (t : TA) : TE := fun σ H Q => ta σ H fun x H1 => rMethX C m x H1 fun H1 => t σ H1 fun vs H2 => sp (x :: vs) H2 Q (E σ)
theorem ap_meth {C : Addr} {m : Str} {sp : Sp} {E : St → XK} {ta : TE} {t : TA} {σ : St} {H : Hp} {Q : VK} : tMethX C m sp E ta t σ H Q = ta σ H fun x H1 => rMethX C m x H1 fun H1 => t σ H1 fun vs H2 => sp (x :: vs) H2 Q (E σ) := propext Iff.rfl
section
variable {X : Cx} {CX : CXT} {E : St → XK}
end
def tMakeX (C : Addr) (sp : Sp) (E : St → XK) (t : TA) : TE := fun σ H Q => t σ H fun vs H1 => ∀ x dx H2, H1 x = none → H1 dx = none → dx ≠ x → Same H1 H2 → H2 x = some (.ins C dx []) → H2 dx = some (.own x) → sp (.ref x :: vs) H2 (fun v H3 => v = .non ∧ Q (.ref x) H3) (E σ)
theorem ap_make {C : Addr} {sp : Sp} {E : St → XK} {t : TA} {σ : St} {H : Hp} {Q : VK} : tMakeX C sp E t σ H Q = t σ H fun vs H1 => ∀ x dx H2, H1 x = none → H1 dx = none → dx ≠ x → Same H1 H2 → H2 x = some (.ins C dx []) → H2 dx = some (.own x) → sp (.ref x :: vs) H2 (fun v H3 => v = .non ∧ Q (.ref x) H3) (E σ) := propext Iff.rfl
section
variable {X : Cx} {CX : CXT} {E : St → XK}
end
end L2

namespace L2
open PySem PySem.Spec PyProof.Rows
theorem isList_sb {h g : Heap} {l c : Addr} {xs : Array Value} (x : h.IsList l xs) (s : Heap.SameBut c h g) (ne : l ≠ c) : g.IsList l xs := by
  obtain ⟨o, h1, h2⟩ := x
  exact ⟨o, (s.2 l ne).trans h1, h2⟩
section
variable {prog : Program} {w : World} {A : Around} {E : Value → Shared → Prop}
theorem draw_lst {c l : Addr} {xs : Array Value} (ne : l ≠ c) : ∀ (k j : Nat) (s : Shared) (R : List Value → Shared → Prop), s.heap.IsListIter c l j → s.heap.IsList l xs → j + k ≤ xs.size →
    (∀ g, g.IsListIter c l (j + k) → Heap.SameBut c s.heap g → R ((xs.toList.drop j).take k) { s with heap := g }) → wpAny (model prog w) A (draw (.ref c) k) R E s
  | 0, j, s, R, i0, _, _, q => wpAny_pure (by simpa using q s.heap i0 (Heap.SameBut.refl ..))
  | k + 1, j, s, R, i0, l0, hb, q => by
    have lt : j < xs.size := by omega
    show wpAny _ _ (pyNext (.ref c) >>= _) R E s
    refine wpAny_bind (wpAny_pyNext_list_item i0 l0 (x := xs[j]) (by simp [lt]) fun g1 i1 s1 => ?_)
    refine wpAny_bind (wpAny_holding (draw_lst ne k (j + 1) _ _ i1 (isList_sb l0 s1 ne) (by omega) fun g2 i2 s2 => wpAny_pure ?_))
    have z := q g2 (by rw [show j + (k + 1) = j + 1 + k by omega]; exact i2) (s1.trans s2)
    rw [show xs.toList.drop j = xs[j] :: xs.toList.drop (j + 1) by simp [List.drop_eq_getElem_cons, lt], List.take_succ_cons] at z
    exact z
theorem unpack_lst {s : Shared} {l : Addr} {xs : Array Value} {ts : List (Bool × (Value → Sem Unit))} {R : Unit → Shared → Prop} (hh : A.handled = none) (l0 : s.heap.IsList l xs) (hn : ts.length = xs.size) (hs : ts.findIdx? (·.1) = none)
    (q : ∀ g, Heap.ExtBut s.heap.objs.size s.heap g → wpAny (model prog w) A (assignInOrder (ts.map (·.2)) xs.toList) R E { s with heap := g }) : wpAny (model prog w) A (unpack (.ref l) ts) R E s := by
  have ne : l ≠ s.heap.objs.size := by obtain ⟨o, ho, _⟩ := l0; exact Nat.ne_of_lt (Heap.lt_size ho)
  unfold unpack
  rw [hn, hs]
  refine wpAny_bind (wpAny_holding ?_)
  unfold unpackItems
  refine wpAny_bind ?_
  unfold notIterableAtAll
  refine wpAny_bind (wpAny_specialOf l0.typeIs F.slot_list_iter.lookup ?_)
  refine wpAny_pure ?_
  simp only [Bool.false_eq_true, if_false]
  refine wpAny_bind (wpAny_holding (wpAny_pyIter_list l0 ?_))
  refine wpAny_bind (wpAny_holding (draw_lst ne xs.size 0 _ _ ⟨_, Heap.get?_push_size _ rfl, rfl, rfl⟩ (l0.push _) (by omega) fun g1 i1 s1 => ?_))
  rw [show List.take xs.size (List.drop 0 xs.toList) = xs.toList by rw [List.drop_zero]; exact List.take_of_length_le (by simp)]
  rw [if_neg (by simp)]
  refine wpAny_bind (wpAny_holding (wpAny_pyNext_list_end hh i1 (isList_sb (l0.push _) s1 ne) (by simp) fun g2 e2 => ?_))
  simp only [Option.isSome_none, Bool.false_eq_true, if_false]
  exact wpAny_pure (q g2 fun b o hb e => e2 b o hb (s1.extBut b o hb (Heap.get?_push_of_some _ e)))
end
def gUnp (K : PySem.W.Frag) (n : Nat) (t : TGs) : TG := fun v σ H Q => match v with
  | .ref a => ∃ xs, Sq K H a xs ∧ xs.length = n ∧ t xs σ H Q
  | _ => False
theorem pg_unp {X : Cx} {es : List Expr} {k : Nat} {t : TGs} {n : Nat} {pos : Pos} (hc : X.calm = true) (h : PGs X es t)
    (hn : (assignEach es X.env).length = n := by rfl) (hst : (assignEach es X.env).findIdx? (·.1) = none := by rfl) : PG X (.Tuple es k pos) (gUnp X.K n t) := by
  intro pins s σ H v u Q I r hw
  cases v with
  | ref a =>
    obtain ⟨xs, hq | hq, hl, hw⟩ := hw
    · cases r
      obtain ⟨its, rv, p, hz⟩ := I.list hq
      rw [assign_Tuple]
      refine wpAny_bind (wpAny_standAt (unpack_lst (I.ok.hd hc) p.isList (by simp [hn, ← hl, rv.length]) hst fun g hx => ?_))
      have I1 : Inv X pins σ H { s with heap := g } := I.kept (t' := s.toks) fun b o e => hx b o (Nat.ne_of_lt (Heap.lt_size e)) e
      exact h pins _ σ H xs _ Q I1 (by simpa using rv) hw
    · exact pg_tup (pos := pos) (k := k) hc h hn hst pins s σ H _ u Q I r ⟨a, xs, rfl, hq, hl, hw⟩
  | _ => exact False.elim hw
theorem pg_unpK {X : Cx} {K : PySem.W.Frag} {es : List Expr} {k : Nat} {t : TGs} {n : Nat} {pos : Pos} (hK : X.K = K) (hc : X.calm = true) (h : PGs X es t)
    (hn : (assignEach es X.env).length = n := by rfl) (hst : (assignEach es X.env).findIdx? (·.1) = none := by rfl) : PG X (.Tuple es k pos) (gUnp K n t) := hK ▸ pg_unp hc h hn hst
theorem ap_unp {K : PySem.W.Frag} {n : Nat} {t : TGs} {a : Addr} {σ : St} {H : Hp} {Q : St → Hp → Prop} : gUnp K n t (.ref a) σ H Q = ∃ xs, Sq K H a xs ∧ xs.length = n ∧ t xs σ H Q := propext Iff.rfl
theorem ap_gcons {t : TG} {u : TGs} {v : V} {r : List V} {σ : St} {H : Hp} {Q : St → Hp → Prop} : gCons t u (v :: r) σ H Q = t v σ H fun σ' H' => u r σ' H' Q := propext ⟨fun ⟨_, _, e, h⟩ => by cases e; exact h, fun h => ⟨v, r, rfl, h⟩⟩
theorem ap_gnil {σ : St} {H : Hp} {Q : St → Hp → Prop} : gNil [] σ H Q = Q σ H := propext ⟨fun h => h.2, fun h => ⟨rfl, h⟩⟩
def cutN (l : List Nat) (lo hi : Option Int) : List Nat := (l.drop (HT.sIx l.length 0 lo)).take (HT.sIx l.length l.length hi - HT.sIx l.length 0 lo)
theorem cutN_length (l : List Nat) (lo hi : Option Int) : (cutN l lo hi).length ≤ l.length := by
  unfold cutN
  rw [List.length_take, List.length_drop]
  omega
theorem pick_range {α : Type} (l : List α) (a k : Nat) : ((List.range k).map fun j => a + j).filterMap (l[·]?) = (l.drop a).take k := by
  induction k with
  | zero => simp
  | succ k ih =>
    rw [List.range_succ, List.map_append, List.filterMap_append, ih, List.take_succ]
    congr 1
    simp only [List.map_cons, List.map_nil, List.filterMap_cons, List.filterMap_nil, List.getElem?_drop]
    cases l[a + k]? <;> rfl
def partOf : Option Int → Tok → Option (Int × Tok)
  | some i, t => some (i, t)
  | none, _ => none
def clipV (n d : Nat) : Option Int → Int
  | none => d
  | some i => max 0 (min (if i < 0 then i + (n : Int) else i) (n : Int))
theorem sIx_clip (n d : Nat) (o : Option Int) : clipV n d o = ((HT.sIx n d o : Nat) : Int) := by
  cases o with
  | none => rfl
  | some v =>
    show max 0 (min (if v < 0 then v + (n : Int) else v) (n : Int)) = ((if v < 0 then (v + (n : Int)).toNat else min v.toNat n : Nat) : Int)
    by_cases h : v < 0
    · rw [if_pos h, if_pos h]; omega
    · rw [if_neg h, if_neg h]; omega
theorem indices_clip (lo hi : Option Int) (n : Nat) : Builtin.Str.strSliceIndices lo hi 1 n = sliceRange (clipV n 0 lo) (clipV n n hi) 1 := by
  unfold Builtin.Str.strSliceIndices clipV
  cases lo <;> cases hi <;> simp
theorem range_one (a b : Nat) : sliceRange (a : Int) (b : Int) 1 = (List.range (b - a)).map fun j => a + j := by
  unfold sliceRange
  have e3 : (if (1 : Int) > 0 then (if (a : Int) < (b : Int) then ((b : Int) - (a : Int) + 1 - 1) / 1 else 0) else (if (a : Int) > (b : Int) then ((a : Int) - (b : Int) - 1 - 1) / (-1) else 0)).toNat = b - a := by
    rw [if_pos (by decide)]
    split <;> omega
  show ((List.range (if (1 : Int) > 0 then (if (a : Int) < (b : Int) then ((b : Int) - (a : Int) + 1 - 1) / 1 else 0) else (if (a : Int) > (b : Int) then ((a : Int) - (b : Int) - 1 - 1) / (-1) else 0)).toNat).map fun (k : Nat) => ((a : Int) + 1 * (k : Int)).toNat) = _
  rw [e3]
  exact List.map_congr_left fun k _ => by omega
theorem picked_range (x : Str) (lo hi : Option Int) (t u : Tok) : slicePicked x (partOf lo t) (partOf hi u) none = (List.range (HT.sIx x.length x.length hi - HT.sIx x.length 0 lo)).map fun j => HT.sIx x.length 0 lo + j := by
  unfold slicePicked
  have e1 : (partOf lo t).map (·.1) = lo := by cases lo <;> rfl
  have e2 : (partOf hi u).map (·.1) = hi := by cases hi <;> rfl
  rw [e1, e2]
  show Builtin.Str.strSliceIndices lo hi 1 x.length = _
  rw [indices_clip, sIx_clip, sIx_clip, range_one]
theorem picked_cut (x : Str) (lo hi : Option Int) (t u : Tok) : (slicePicked x (partOf lo t) (partOf hi u) none).filterMap (x.cps[·]?) = cutN x.cps.toList lo hi := by
  have e5 : (fun i : Nat => x.cps[i]?) = fun i : Nat => x.cps.toList[i]? := by funext i; rw [Array.getElem?_toList]
  rw [picked_range, e5, pick_range]
  unfold cutN
  rw [← len_cps]
theorem sl_strX {X : Cx} : SlR X (fun x lo hi H Q => ∃ z, x = .str z ∧ z.length ≤ sizeLine ∧ Q (.str (tx (cutN z.cps.toList lo hi))) H) := by
  intro pins s σ H x v vl vu lo hi sl Q I rx hs pl pu h
  obtain ⟨z, rfl, hz, q⟩ := h
  obtain ⟨t, rfl⟩ := rx
  refine ⟨"str", _, F.slot_str_getitem.lookup, typeIs_str s z t, ?_⟩
  have h1 : ∃ tl, vl = partValue (partOf lo tl) := by cases pl with | none => exact ⟨0, rfl⟩ | int i t => exact ⟨t, rfl⟩
  have h2 : ∃ tu, vu = partValue (partOf hi tu) := by cases pu with | none => exact ⟨0, rfl⟩ | int i t => exact ⟨t, rfl⟩
  obtain ⟨tl, rfl⟩ := h1
  obtain ⟨tu, rfl⟩ := h2
  refine wpAny_getItem_str_slice (l := partOf lo tl) (u := partOf hi tu) (st := none) hs rfl ?_
  have ec := picked_cut z lo hi tl tu
  have key : tx (cutN z.cps.toList lo hi) = ⟨((slicePicked z (partOf lo tl) (partOf hi tu) none).filterMap (z.cps[·]?)).toArray⟩ := by rw [ec]; rfl
  unfold sliceMade
  split
  next hh =>
    have hl : (slicePicked z (partOf lo tl) (partOf hi tu) none).length = z.length := by simpa using hh
    rw [picked_range, List.length_map, List.length_range] at hl
    have b1 := HT.sIx_le z.length 0 (Nat.zero_le _) lo
    have b2 := HT.sIx_le z.length z.length (Nat.le_refl _) hi
    have e : tx (cutN z.cps.toList lo hi) = z := by
      unfold cutN
      rw [← len_cps, hl]
      by_cases hz0 : z.length = 0
      · have : z.cps.toList = [] := by rw [← List.length_eq_zero_iff, ← len_cps]; exact hz0
        rw [this]
        have := tx_of z
        rw [‹z.cps.toList = []›] at this
        simpa using this
      · rw [show HT.sIx z.length 0 lo = 0 by omega, List.drop_zero, List.take_of_length_le (by rw [← len_cps]; exact Nat.le_refl _)]
        exact tx_of z
    rw [e] at q
    exact ⟨.str z, H, I, ⟨t, rfl⟩, q⟩
  next =>
    rw [← key]
    refine ⟨?_, .str _, H, I.tok _, ⟨_, rfl⟩, q⟩
    rw [tx_len]
    have := cutN_length z.cps.toList lo hi
    rw [← len_cps] at this
    omega
def rSlY (K : PySem.W.Frag) : V → Option Int → Option Int → Hp → VK → Prop := fun x lo hi H Q => match x with
  | .ref a => ∃ xs, SqL K H a xs ∧ nw H (.lst (cutV xs lo hi)) Q
  | .str z => z.length ≤ sizeLine ∧ Q (.str (tx (cutN z.cps.toList lo hi))) H
  | _ => False
theorem sl_Y {X : Cx} : SlR X (rSlY X.K) := by
  intro pins s σ H x v vl vu lo hi sl Q I rx hs pl pu h
  cases x with
  | ref a =>
    obtain ⟨xs, h1, h2⟩ := h
    exact sl_list pins s σ H _ v vl vu lo hi sl Q I rx hs pl pu ⟨a, xs, rfl, h1, h2.go⟩
  | str z => exact sl_strX pins s σ H _ v vl vu lo hi sl Q I rx hs pl pu ⟨z, rfl, h.1, h.2⟩
  | _ => exact False.elim h
theorem sl_YK {X : Cx} {K : PySem.W.Frag} (hK : X.K = K) : SlR X (rSlY K) := hK ▸ sl_Y
end L2

namespace L2
open PySem PySem.Spec PyProof.Rows
def memK (x : Key) (l : List Key) : Bool := l.any fun y => decide (y = x)
def metK (val : Nat → Key) : Nat → List Key
  | 0 => []
  | i + 1 => if memK (val i) (metK val i) = true then metK val i else metK val i ++ [val i]
section
variable {prog : Program} {w : World} {A : Around} {R : Result → Shared → Prop} {c : Addr} {fp wr : List Addr} {G : Array GenState → Array GenState → Prop} {n : Nat} {Pv : Nat → Value → Prop} {Sv : Nat → Shared → Prop}
end
def valT (z : Str) (i : Nat) : Key := Sum.inr ⟨#[z.cps.toList.getD i 0]⟩
end L2

namespace L2
open PySem PySem.Spec PyProof.Rows
def setT (P : Program) (w : World) (a : Addr) (l : List Key) : HO := .ext fun h => h.SetOf (mixKind P w) a (fun x => memK x l) l.length
def rSetS (P : Program) (w : World) : List V → Hp → VK → Prop := fun vs H Q => match vs with
  | [.str z] => z.length ≤ 4000 ∧ ∀ p H', H p = none → Same H H' → H' p = some (setT P w p (metK (valT z) z.length)) → Q (.ref p) H'
  | _ => False
def rLenT (P : Program) (w : World) : List V → Hp → VK → Prop := fun vs H Q => match vs with
  | [.ref p] => ∃ l, H p = some (setT P w p l) ∧ Q (.int l.length) H
  | _ => False
def rInsert : V → List V → Hp → VK → Prop := fun x vs H Q => match x, vs with
  | .ref l, [.int i, y] => ∃ xs, H l = some (.lst xs) ∧ 0 ≤ i ∧ i < 2 ^ 62 ∧ xs.length < sizeLine ∧ Q .non (upd H l (.lst (xs.take i.toNat ++ y :: xs.drop i.toNat)))
  | _, _ => False
theorem cutN_take (l : List Nat) (j : Nat) : cutN l none (some (j : Int)) = l.take j := by
  unfold cutN
  rw [HT.sIx_none, HT.sIx_nat, Nat.sub_zero, List.drop_zero, List.take_eq_take_iff]
  omega
theorem tag_same {H H' : Hp} (s : Same H H') {x : V} {t : Tg} (h : tagV H x = some t) : tagV H' x = some t := by
  cases x with
  | ref a =>
    have h' : tagO (H a) = some t := h
    cases e : H a with
    | none => rw [e] at h'; cases h'
    | some o =>
      show tagO (H' a) = some t
      rw [s a o e, ← e]; exact h'
  | _ => exact h
end L2

namespace L2
open PySem PySem.Spec PyProof.Rows
def lexGe : List Int → List Int → Bool
  | [], [] => true
  | [], _ :: _ => false
  | _ :: _, [] => true
  | a :: x, c :: y => if a = c then lexGe x y else decide (c ≤ a)
section
variable {X : Cx} {K : PySem.W.Frag}
def rGeL (K : PySem.W.Frag) : R2 := fun x y H Q => match x, y with
  | .int i, .int j => Q (.bl (decide (j ≤ i))) H
  | .ref a, .ref b => ∃ ns ms, SqL K H a (ns.map V.int) ∧ SqL K H b (ms.map V.int) ∧ Q (.bl (lexGe ns ms)) H
  | _, _ => False
def tRev (K : PySem.W.Frag) (te : TE) (ts : TO) : TE := fun σ H Q => te σ H fun x H1 => ts σ H1 fun o H2 => o = some (-1) ∧ ∃ a xs, x = .ref a ∧ SqL K H2 a xs ∧ nw H2 (.lst xs.reverse) Q
theorem ap_rev {te : TE} {ts : TO} {σ : St} {H : Hp} {Q : VK} : tRev K te ts σ H Q = te σ H fun x H1 => ts σ H1 fun o H2 => o = some (-1) ∧ ∃ a xs, x = .ref a ∧ SqL K H2 a xs ∧ nw H2 (.lst xs.reverse) Q := propext Iff.rfl
end
theorem seq_go {t u : TS} {D : Ends} {σ : St} {H : Hp} (h : ∀ nn : TS, nn = u → t { D with nx := fun σ' H' => nn D σ' H' } σ H) : tSeq t u D σ H := h u rfl
theorem for_rngO {lo : Int} {n : Nat} {g : TG} {tb : TS} {D : Ends} {σ : St} {H : Hp} (Pv : Nat → St → Hp → Prop) (h0 : Pv 0 σ H)
    (hs : ∀ i σ H, i < n → Pv i σ H → ∀ N : St → Hp → Prop, (∀ σ' H', Pv (i + 1) σ' H' → N σ' H') → g (.int (lo + i)) σ H fun σ2 H2 => tb { D with nx := N, ct := N, bk := D.nx } σ2 H2) (hd : ∀ σ H, Pv n σ H → D.nx σ H) : ForTurns g tb D (Itr lo n) σ H :=
  for_rng Pv h0 (fun i σ H hi hp => hs i σ H hi hp _ fun _ _ h => h) hd
end L2

namespace Mk
end Mk

namespace Mk
def splitL (c : Nat) : List Nat → List (List Nat)
  | [] => [[]]
  | a :: l => if a = c then [] :: splitL c l else match splitL c l with
    | [] => [[a]]
    | w :: ws => (a :: w) :: ws
def joinL (c : Nat) : List (List Nat) → List Nat
  | [] => []
  | [w] => w
  | w :: v :: ws => w ++ c :: joinL c (v :: ws)
theorem split_join_cons {c : Nat} : ∀ (w l : List Nat), c ∉ w → splitL c (w ++ c :: l) = w :: splitL c l
  | [], l, _ => by simp [splitL]
  | a :: w, l, h => by
    have ha : a ≠ c := fun e => h (by rw [e]; exact List.mem_cons_self)
    have ih := split_join_cons w l fun hc => h (List.mem_cons_of_mem _ hc)
    show (if a = c then _ else match splitL c (w ++ c :: l) with | [] => [[a]] | w :: ws => (a :: w) :: ws) = _
    rw [if_neg ha, ih]
theorem split_one {c : Nat} : ∀ (w : List Nat), c ∉ w → splitL c w = [w]
  | [], _ => rfl
  | a :: w, h => by
    have ha : a ≠ c := fun e => h (by rw [e]; exact List.mem_cons_self)
    have ih := split_one w fun hc => h (List.mem_cons_of_mem _ hc)
    show (if a = c then _ else match splitL c w with | [] => [[a]] | w :: ws => (a :: w) :: ws) = _
    rw [if_neg ha, ih]
theorem split_joinL {c : Nat} : ∀ (ws : List (List Nat)), ws ≠ [] → (∀ w ∈ ws, c ∉ w) → splitL c (joinL c ws) = ws
  | [], h, _ => absurd rfl h
  | [w], _, h => split_one w (h w List.mem_cons_self)
  | w :: v :: ws, _, h => by
    show splitL c (w ++ c :: joinL c (v :: ws)) = _
    rw [split_join_cons w _ (h w List.mem_cons_self), split_joinL (v :: ws) (by simp) fun x hx => h x (List.mem_cons_of_mem _ hx)]
theorem splitL_mem {c : Nat} : ∀ (l : List Nat), (splitL c l).length ≤ l.length + 1 ∧ ∀ w ∈ splitL c l, w.length ≤ l.length
  | [] => by simp [splitL]
  | a :: l => by
    obtain ⟨h1, h2⟩ := splitL_mem (c := c) l
    have e : splitL c (a :: l) = if a = c then [] :: splitL c l else match splitL c l with | [] => [[a]] | w :: ws => (a :: w) :: ws := rfl
    by_cases ha : a = c
    · rw [e, if_pos ha, List.length_cons, List.length_cons]
      refine ⟨by omega, fun w hw => ?_⟩
      rcases List.mem_cons.mp hw with rfl | hw
      · exact Nat.zero_le _
      · have := h2 w hw; omega
    · rw [e, if_neg ha, List.length_cons]
      cases hs : splitL c l with
      | nil => exact ⟨by simp, fun w hw => by rw [List.mem_singleton.mp hw]; simp⟩
      | cons v vs =>
        rw [hs] at h1 h2
        refine ⟨by simp only [List.length_cons] at h1 ⊢; omega, fun w hw => ?_⟩
        rcases List.mem_cons.mp hw with rfl | hw
        · have := h2 v List.mem_cons_self
          rw [List.length_cons]; omega
        · have := h2 w (List.mem_cons_of_mem _ hw); omega
theorem joinL_len {c : Nat} : ∀ (ws : List (List Nat)), (joinL c ws).length ≤ (ws.map fun w => w.length + 1).sum
  | [] => by simp [joinL]
  | [w] => by simp [joinL]
  | w :: v :: ws => by
    have ih := joinL_len (c := c) (v :: ws)
    show (w ++ c :: joinL c (v :: ws)).length ≤ _
    rw [List.length_append, List.length_cons, List.map_cons, List.sum_cons]
    omega
end Mk
namespace L2
open PySem PySem.Spec PyProof.Rows
theorem strjoin_tx (c : Nat) : ∀ (ls : List (List Nat)), (tx [c]).join (ls.map tx) = tx (Mk.joinL c ls)
  | [] => rfl
  | [w] => by rfl
  | w :: v :: ws => by
    have ih := strjoin_tx c (v :: ws)
    show tx w ++ tx [c] ++ (tx [c]).join ((v :: ws).map tx) = tx (w ++ c :: Mk.joinL c (v :: ws))
    rw [ih, tx_app, tx_app, List.append_assoc]
    rfl
theorem tx_map (ls : List Str) : (ls.map fun z => z.cps.toList).map tx = ls := by
  rw [List.map_map]
  conv => rhs; rw [← List.map_id ls]
  exact List.map_congr_left fun z _ => tx_of z
theorem split_tx (l : List Nat) (c : Nat) : Txt.split (tx l) (tx [c]) = (Mk.splitL c l).map tx := by
  have h1 := StrLaws.join_split (tx l) (tx [c])
  have h2 : ∀ p ∈ Txt.split (tx l) (tx [c]), c ∉ p.cps.toList := fun p hp => StrLaws.split_free (tx l) c p hp
  have h3 := PyProof.Rows.split_pos (tx l) (tx [c])
  generalize Txt.split (tx l) (tx [c]) = ps at h1 h2 h3
  rw [← tx_map ps] at h1 ⊢
  rw [strjoin_tx] at h1
  rw [← tx_inj h1, Mk.split_joinL]
  · intro e
    have := congrArg List.length e
    simp at this
    rw [this] at h3
    simp at h3
  · intro w hw
    obtain ⟨p, hp, rfl⟩ := List.mem_map.mp hw
    exact h2 p hp
theorem txjoin_tx (c : Nat) (ls : List (List Nat)) : Txt.join (tx [c]) (ls.map tx) = tx (Mk.joinL c ls) := by
  have go : ∀ (r : List (List Nat)) (acc : List Nat), (r.map tx).foldl (fun acc p => acc ++ (tx [c]).cps ++ p.cps) acc.toArray = (acc ++ (r.map fun w => c :: w).flatten).toArray := by
    intro r
    induction r with
    | nil => intro acc; simp
    | cons a r ih =>
      intro acc
      rw [List.map_cons, List.foldl_cons]
      have e : acc.toArray ++ (tx [c]).cps ++ (tx a).cps = (acc ++ c :: a).toArray := by simp [tx]
      rw [e, ih]
      simp
  have jl : ∀ (a : List Nat) (r : List (List Nat)), Mk.joinL c (a :: r) = a ++ (r.map fun w => c :: w).flatten := by
    intro a r
    induction r generalizing a with
    | nil => simp [Mk.joinL]
    | cons b r ih =>
      show a ++ c :: Mk.joinL c (b :: r) = _
      rw [ih b]
      simp
  unfold Txt.join Builtin.Str.glued
  cases ls with
  | nil => rfl
  | cons a r =>
    have := go r a
    show Str.mk ((r.map tx).foldl (fun acc p => acc ++ (tx [c]).cps ++ p.cps) a.toArray) = tx (Mk.joinL c (a :: r))
    rw [this, jl]
    rfl
def rSplit : V → List V → Hp → VK → Prop := fun x vs H Q => match x, vs with
  | .str z, [.str y] => z.length ≤ 100000 ∧ ∃ c, y = tx [c] ∧ nw H (.lst ((Mk.splitL c z.cps.toList).map fun w => .str (tx w))) Q
  | _, _ => False
theorem vals_strs : ∀ (l : List (Str × Tok)), Vals ((l.map fun p => p.1).map V.str) (strValues l)
  | [] => .nil
  | p :: l => .cons ⟨p.2, rfl⟩ (vals_strs l)
theorem split_call {prog : Program} {w : World} {A : Around} {E : Value → Shared → Prop} {s : Shared} {x y : Str} {t u : Tok} {Q : Value → Shared → Prop} (hy : (y.length == 0) = false) (hsz : x.length + 2 ≤ sizeLine)
    (h : ∀ (l : List (Str × Tok)) (k : Nat), l.map (fun p => p.1) = Txt.split x y → Q (.ref s.heap.objs.size) { s with heap := s.heap.push { cls := .type "list", data := .seq (strValues l).toArray }, toks := k }) :
    wpAny (model prog w) A (call (.builtin "str.split") [.str x t, .str y u]) Q E s := by
  have ex : Txt.split x y = if (decide (x.length < y.length) || decide (Builtin.Str.strKind x < Builtin.Str.strKind y)) = true then [x] else if (Builtin.Str.occurrences x y 0 x.length (x.length + 1)).isEmpty = true then [x] else Builtin.Str.partsBetween x (Builtin.Str.occurrences x y 0 x.length (x.length + 1)) y.length := rfl
  cases h1 : (decide (x.length < y.length) || decide (Builtin.Str.strKind x < Builtin.Str.strKind y)) with
  | true =>
    rw [h1, if_pos rfl] at ex
    refine call_meets F.slot_str_split (typeIs_str s x t) F.entry_str_split (F.args_str_split_2 (Value.str x t) (Value.str y u)) (meets_str_split_cannot_occur x y t u h1) ?_
    exact h [(x, _)] _ ex.symm
  | false =>
    rw [h1, if_neg (by decide)] at ex
    cases hf : (Builtin.Str.occurrences x y 0 x.length (x.length + 1)).isEmpty with
    | true =>
      rw [hf, if_pos rfl] at ex
      refine call_meets F.slot_str_split (typeIs_str s x t) F.entry_str_split (F.args_str_split_2 (Value.str x t) (Value.str y u)) (meets_str_split_not_found x y t u h1 hy hf) ?_
      exact h [(x, _)] _ ex.symm
    | false =>
      rw [hf, if_neg (by decide)] at ex
      have hl := PyProof.Rows.split_le x y
      rw [ex] at hl
      refine call_meets F.slot_str_split (typeIs_str s x t) F.entry_str_split (F.args_str_split_2 (Value.str x t) (Value.str y u)) (meets_str_split_sep x y t u h1 hy hf (by omega) (by omega)) ?_
      show Q _ _
      rw [strsFrom_eq]
      exact h _ _ ((numbered_texts _ _).trans ex.symm)
theorem mt_split {X : Cx} : MtM X "str.split" rSplit := by
  intro pins s σ H x vs v us Q I rx rv h
  match x, vs, h with
  | .str z, [.str y], h =>
    obtain ⟨hz, c, rfl, q⟩ := h
    obtain ⟨t, rfl⟩ := rx
    obtain ⟨u, rfl, ru⟩ := rv.one
    obtain ⟨t2, rfl⟩ := ru
    have hb : z.length + 2 ≤ sizeLine := by rw [sizeLine_eq]; omega
    refine split_call rfl hb fun l k e => ?_
    have e2 : l.map (fun p => p.1) = (Mk.splitL c z.cps.toList).map tx := by rw [e, ← split_tx, tx_of]
    have hl : (strValues l).length ≤ z.length + 2 := by
      have := PyProof.Rows.split_le z (tx [c])
      rw [← e, List.length_map] at this
      rw [show (strValues l).length = l.length from List.length_map ..]
      exact this
    have r := vals_strs l
    rw [e2, List.map_map] at r
    refine ⟨.ref s.heap.objs.size, _, I.laid (t' := k) (o := .lst ((Mk.splitL c z.cps.toList).map fun w => .str (tx w))) (fun b ob q => Heap.get?_push_of_some _ q) (Nat.le_refl _) ?_, rfl, q.go _ (I.hok.fresh (Nat.le_refl _))⟩
    refine ⟨?_, _, 0, r, Heap.get?_push_size _ rfl⟩
    have := r.length
    rw [show ((Mk.splitL c z.cps.toList).map fun w => V.str (tx w)) = (Mk.splitL c z.cps.toList).map (V.str ∘ tx) from rfl, this]
    omega
def tDisp1 (tk tv : TE) : TE := fun σ H Q => ∀ p H', H p = none → Same H H' → H' p = some (.dT []) → tk σ H' fun x H1 => tv σ H1 fun y H2 => ∃ b ks, x = .ref b ∧ H2 b = some (.tup (ks.map kV)) ∧ H2 p = some (.dT []) ∧ Q (.ref p) (upd H2 p (.dT (putK [] ks y)))
theorem ap_disp1 {tk tv : TE} {σ : St} {H : Hp} {Q : VK} : tDisp1 tk tv σ H Q = ∀ p H', H p = none → Same H H' → H' p = some (.dT []) → tk σ H' fun x H1 => tv σ H1 fun y H2 => ∃ b ks, x = .ref b ∧ H2 b = some (.tup (ks.map kV)) ∧ H2 p = some (.dT []) ∧ Q (.ref p) (upd H2 p (.dT (putK [] ks y))) := propext Iff.rfl
theorem pe_disp1 {X : Cx} {pos : Pos} {k v : Expr} {tk tv : TE} (hu : X.A.units + 1 < cLine) (hk : PE X k tk) (hv : PE X v tv) : PE X (.Dict [some k] [v] pos) (tDisp1 tk tv) := by
  intro pins s σ H Q I q
  have hn := I.hok.fresh (Nat.le_refl s.heap.objs.size)
  have I1 := I.laid (a := s.heap.objs.size) (o := .dT []) (h' := s.heap.push { cls := .type "dict", data := .dict #[] }) (t' := s.toks) (fun _ _ q => Heap.get?_push_of_some _ q) (Nat.le_refl _) (dt_empty s.heap I.big)
  have hp : PPs X pos [some k] [v] [(tk, tv)] := pps_cons hk hv pps_nil
  have q1 := q s.heap.objs.size _ hn (same_upd hn) upd_same
  rw [arm_eval_Dict, zip_pairTrees [some k] [v] X.env pos rfl rfl, dictDisplay_pairs _ (fun e => by have := pairTrees_length [some k] [v] X.env pos rfl rfl; rw [e] at this; cases this) (by rw [pairTrees_length [some k] [v] X.env pos rfl rfl]; show (1 : Nat) < 17; decide)]
  refine wpAny_bind (wpAny_standAt (wpAny_bind ?_))
  unfold subDict
  refine wpAny_bind (wpAny_alloc (wpAny_bind (wpAny_holding ?_)))
  rw [if_pos (by rw [pairTrees_length [some k] [v] X.env pos rfl rfl]; show (1 : Nat) ≤ 15; decide)]
  refine wpAny_bind (thn (hp pins _ σ _ (fun ps H2 => match ps with
    | [(x, y)] => ∃ b ks, x = .ref b ∧ H2 b = some (.tup (ks.map kV)) ∧ H2 s.heap.objs.size = some (.dT []) ∧ Q (.ref s.heap.objs.size) (upd H2 s.heap.objs.size (.dT (putK [] ks y)))
    | _ => False) I1 q1) fun ws s2 ⟨ps, H2, I2, rel, hps⟩ => ?_)
  match ps, ws, rel, hps with
  | [(x, y)], _, rel, hps =>
    obtain ⟨b, ks, rfl, hb, hd0, qf⟩ := hps
    cases rel with
    | @cons p1 p2 as bs r1 r2 =>
      cases r2
      obtain ⟨u1, u2⟩ := p2
      obtain ⟨ra, rv⟩ := r1
      cases (show u1 = Value.ref b from ra)
      obtain ⟨z, hd, xs, rel, dd⟩ := dt_of I2.hok hd0
      refine wpAny_holding (wpAny_bind ?_)
      rw [List.forIn_cons]
      refine wpAny_bind (wpAny_bind ?_)
      have hz : xs.length ≤ sizeLine := by rw [← Paired.length rel]; exact z
      refine wpAny_dictSet_heap (hsz := hz) (by show X.A.units < cLine; omega) (key_of I2.hok hb) dd fun h' dd' hs => ?_
      refine wpAny_pure ?_
      show wpAny _ _ (forIn [] PUnit.unit _) _ _ _
      rw [List.forIn_nil]
      refine wpAny_pure (wpAny_pure (wpAny_pure (wpAny_pure ?_)))
      obtain ⟨q', es, ep, hq', h2, h3, h4, _, h5⟩ := dd'
      have hl : (putK ([] : List (List Key × V)) ks y).length ≤ sizeLine := by have := length_putK ([] : List (List Key × V)) ks y; rw [List.length_nil] at this; rw [sizeLine_eq]; omega
      refine ⟨.ref s.heap.objs.size, _, d_write (ob := .dT (putK [] ks y)) I2 (by rw [hd0]; exact True.intro) hs ⟨q', hq'⟩ ⟨hl, hd, _, (rel.put ks hb rv).keeps fun c ys ec => ?_, q', es, ep, hq', h2, h3, h4, h5⟩, rfl, qf⟩
      rw [upd_ne (ne_of ec hd0 (fun z => nomatch z))]
      exact ec
theorem op_catTK {X : Cx} {K : PySem.W.Frag} (hK : X.K = K) : OpR X (binaryOp .Add) (rCatT K) := hK ▸ op_catT
def rMulS : R2 := fun x y H Q => match x, y with
  | .int i, .int j => (i.natAbs < 2 ^ 60 ∨ j.natAbs < 2 ^ 60) ∧ Q (.int (i * j)) H
  | _, _ => False
theorem op_mulS {X : Cx} : OpR X (binaryOp .Mult) rMulS := by
  intro pins s σ H x y v u Q I rx ry h
  cases x with
  | int i => cases y with
    | int j =>
      refine (opI (X := X) (f := binaryOp .Mult) (C := fun i j => i.natAbs < 2 ^ 60 ∨ j.natAbs < 2 ^ 60) (g := fun i j => i * j) fun i j _ _ _ _ _ hc q => mul_int q ?_) pins s σ H _ _ v u Q I rx ry ⟨_, _, rfl, rfl, h.1, h.2⟩
      rcases hc with hc | hc
      · exact IntMulOk.of_left (Nat.le_trans (intBits_le_iff.mpr hc) (by decide))
      · exact IntMulOk.of_right (Nat.le_trans (intBits_le_iff.mpr hc) (by decide))
    | _ => exact False.elim h
  | _ => exact False.elim h
end L2

namespace L2
open PySem PySem.Spec PyProof.Rows
theorem ev_rAddX_1 {i j} {H : Hp} {Q : VK} : rAddX (.int i) (.int j) H Q = (Q (.int (i + j)) H) := propext Iff.rfl
theorem ev_rAddX_2 {a b} {H : Hp} {Q : VK} : rAddX (.str a) (.str b) H Q = (a.length + b.length ≤ sizeLine ∧ Q (.str (a ++ b)) H) := propext Iff.rfl
theorem ev_rAddX_3 {l b} {H : Hp} {Q : VK} : rAddX (.ref l) (.ref b) H Q = (∃ xs zs, H l = some (.lst xs) ∧ H b = some (.lst zs) ∧ xs.length + zs.length ≤ sizeLine ∧ nw H (.lst (xs ++ zs)) Q) := propext Iff.rfl
theorem ev_rSubX_1 {i j} {H : Hp} {Q : VK} : rSubX (.int i) (.int j) H Q = (Q (.int (i - j)) H) := propext Iff.rfl
theorem ev_rMulX_1 {i j} {H : Hp} {Q : VK} : rMulX (.int i) (.int j) H Q = (CBig i j ∧ Q (.int (i * j)) H) := propext Iff.rfl
theorem ev_rMulX_2 {l k} {H : Hp} {Q : VK} : rMulX (.ref l) (.int k) H Q = (∃ xs, H l = some (.lst xs) ∧ -(2 ^ 63) ≤ k ∧ k < 2 ^ 63 ∧ xs.length * k.toNat ≤ sizeLine ∧ nw H (.lst (List.replicate k.toNat xs).flatten) Q) := propext Iff.rfl
theorem ev_rFdivX_1 {i j} {H : Hp} {Q : VK} : rFdivX (.int i) (.int j) H Q = ((0 < j ∧ j < 2 ^ 1000) ∧ Q (.int (i / j)) H) := propext Iff.rfl
theorem ev_rModX_1 {i j} {H : Hp} {Q : VK} : rModX (.int i) (.int j) H Q = (0 < j ∧ Q (.int (i % j)) H) := propext Iff.rfl
theorem ev_rPowX_1 {i j} {H : Hp} {Q : VK} : rPowX (.int i) (.int j) H Q = ((0 ≤ j ∧ j ≤ 1000000 ∧ i.natAbs < 2 ^ 64) ∧ Q (.int (i ^ j.toNat)) H) := propext Iff.rfl
theorem ev_rCmpX_1 {f : Int → Int → Bool} {i j} {H : Hp} {Q : VK} : rCmpX f (.int i) (.int j) H Q = (Q (.bl (f i j)) H) := propext Iff.rfl
theorem ev_rGeL_1 {K : PySem.W.Frag} {i j} {H : Hp} {Q : VK} : rGeL K (.int i) (.int j) H Q = (Q (.bl (decide (j ≤ i))) H) := propext Iff.rfl
theorem ev_rGeL_2 {K : PySem.W.Frag} {a b} {H : Hp} {Q : VK} : rGeL K (.ref a) (.ref b) H Q = (∃ ns ms, SqL K H a (ns.map V.int) ∧ SqL K H b (ms.map V.int) ∧ Q (.bl (lexGe ns ms)) H) := propext Iff.rfl
theorem ev_rEqX_1 {K : PySem.W.Frag} {i j} {H : Hp} {Q : VK} : rEqX K (.int i) (.int j) H Q = (Q (.bl (decide (i = j))) H) := propext Iff.rfl
theorem ev_rEqX_2 {K : PySem.W.Frag} {i j} {H : Hp} {Q : VK} : rEqX K (.bl i) (.bl j) H Q = (Q (.bl (decide (i = j))) H) := propext Iff.rfl
theorem ev_rEqX_3 {K : PySem.W.Frag} {i j} {H : Hp} {Q : VK} : rEqX K (.str i) (.str j) H Q = (Q (.bl (decide (i = j))) H) := propext Iff.rfl
theorem ev_rEqX_4 {K : PySem.W.Frag} {a b} {H : Hp} {Q : VK} : rEqX K (.ref a) (.ref b) H Q = (∃ xs ys, SqL K H a xs ∧ SqL K H b ys ∧ xs.all flatV = true ∧ ys.all flatV = true ∧ Q (.bl (eqVs xs ys)) H) := propext Iff.rfl
theorem ev_rNeX_1 {K : PySem.W.Frag} {i j} {H : Hp} {Q : VK} : rNeX K (.int i) (.int j) H Q = (Q (.bl (!decide (i = j))) H) := propext Iff.rfl
theorem ev_rNeX_2 {K : PySem.W.Frag} {i j} {H : Hp} {Q : VK} : rNeX K (.bl i) (.bl j) H Q = (Q (.bl (!decide (i = j))) H) := propext Iff.rfl
theorem ev_rNeX_3 {K : PySem.W.Frag} {i j} {H : Hp} {Q : VK} : rNeX K (.str i) (.str j) H Q = (Q (.bl (!decide (i = j))) H) := propext Iff.rfl
theorem ev_rNeX_4 {K : PySem.W.Frag} {a b} {H : Hp} {Q : VK} : rNeX K (.ref a) (.ref b) H Q = (∃ xs ys, SqL K H a xs ∧ SqL K H b ys ∧ xs.all flatV = true ∧ ys.all flatV = true ∧ Q (.bl (!eqVs xs ys)) H) := propext Iff.rfl
theorem ev_rIxX_1 {K : PySem.W.Frag} {p i} {H : Hp} {Q : VK} : rIxX K (.ref p) (.int i) H Q = (∃ xs v, Sq K H p xs ∧ atI xs i = some v ∧ Q v H) := propext Iff.rfl
theorem ev_rIxX_2 {K : PySem.W.Frag} {z i} {H : Hp} {Q : VK} : rIxX K (.str z) (.int i) H Q = (z.length ≤ sizeLine ∧ ∃ c, atI z.cps.toList i = some c ∧ Q (.str ⟨#[c]⟩) H) := propext Iff.rfl
theorem ev_rLenX_1 {K : PySem.W.Frag} {z} {H : Hp} {Q : VK} : rLenX K [.str z] H Q = (z.length ≤ sizeLine ∧ Q (.int z.length) H) := propext Iff.rfl
theorem ev_rLenX_2 {K : PySem.W.Frag} {p} {H : Hp} {Q : VK} : rLenX K [.ref p] H Q = (∃ xs, Sq K H p xs ∧ Q (.int xs.length) H) := propext Iff.rfl
theorem ev_rAbsX_1 {i} {H : Hp} {Q : VK} : rAbsX [.int i] H Q = (Q (.int (i.natAbs : Int)) H) := propext Iff.rfl
theorem ev_rMinX_1 {i j} {H : Hp} {Q : VK} : rMinX [.int i, .int j] H Q = (Q (.int (min i j)) H) := propext Iff.rfl
theorem ev_rMaxX_1 {i j} {H : Hp} {Q : VK} : rMaxX [.int i, .int j] H Q = (Q (.int (max i j)) H) := propext Iff.rfl
theorem ev_rListX_1 {K : PySem.W.Frag} {a} {H : Hp} {Q : VK} : rListX K [.ref a] H Q = (∃ ys, (Sq K H a ys ∨ ∃ lo hi, H a = some (.rng lo hi) ∧ (-(2 ^ 62) ≤ lo ∧ lo < 2 ^ 62 ∧ -(2 ^ 62) ≤ hi ∧ hi < 2 ^ 62) ∧ (hi - lo).toNat ≤ 2 ^ 20 ∧ ys = rngV lo (hi - lo).toNat) ∧ nw H (.lst ys) Q) := propext Iff.rfl
theorem ev_rRngX_1 {j} {H : Hp} {Q : VK} : rRngX [.int j] H Q = (nw H (.rng 0 j) Q) := propext Iff.rfl
theorem ev_rIsiC_1 {c : Tg} {x n} {H : Hp} {Q : VK} : rIsiC c [x, .ty n] H Q = (n = c.name ∧ ∃ t, tagV H x = some t ∧ Q (.bl (t.sub c)) H) := propext Iff.rfl
theorem ev_rSlX_1 {K : PySem.W.Frag} {a} {lo} {hi} {H : Hp} {Q : VK} : rSlX K (.ref a) lo hi H Q = (∃ xs, SqL K H a xs ∧ nw H (.lst (cutV xs lo hi)) Q) := propext Iff.rfl
theorem ev_rSlY_1 {K : PySem.W.Frag} {a} {lo} {hi} {H : Hp} {Q : VK} : rSlY K (.ref a) lo hi H Q = (∃ xs, SqL K H a xs ∧ nw H (.lst (cutV xs lo hi)) Q) := propext Iff.rfl
theorem ev_rSlY_2 {K : PySem.W.Frag} {z} {lo} {hi} {H : Hp} {Q : VK} : rSlY K (.str z) lo hi H Q = (z.length ≤ sizeLine ∧ Q (.str (tx (cutN z.cps.toList lo hi))) H) := propext Iff.rfl
theorem ev_rInsert_1 {l i y} {H : Hp} {Q : VK} : rInsert (.ref l) [.int i, y] H Q = (∃ xs, H l = some (.lst xs) ∧ 0 ≤ i ∧ i < 2 ^ 62 ∧ xs.length < sizeLine ∧ Q .non (upd H l (.lst (xs.take i.toNat ++ y :: xs.drop i.toNat)))) := propext Iff.rfl
theorem ev_rIndexS_1 {z y} {H : Hp} {Q : VK} : rIndexS (.str z) [.str y] H Q = (0 ≤ Txt.find z y ∧ Q (.int (Txt.find z y)) H) := propext Iff.rfl
theorem ev_rJoinS_1 {K : PySem.W.Frag} {z p} {H : Hp} {Q : VK} : rJoinS K (.str z) [.ref p] H Q = (∃ ys : List Str, SqL K H p (ys.map V.str) ∧ (ys.map (·.length)).sum + ys.length * z.length ≤ 16777216 ∧ Q (.str (Txt.join z ys)) H) := propext Iff.rfl
theorem ev_rSplit_1 {z y} {H : Hp} {Q : VK} : rSplit (.str z) [.str y] H Q = (z.length ≤ 100000 ∧ ∃ c, y = tx [c] ∧ nw H (.lst ((Mk.splitL c z.cps.toList).map fun w => .str (tx w))) Q) := propext Iff.rfl
theorem ev_rMulS_1 {i j} {H : Hp} {Q : VK} : rMulS (.int i) (.int j) H Q = ((i.natAbs < 2 ^ 60 ∨ j.natAbs < 2 ^ 60) ∧ Q (.int (i * j)) H) := propext Iff.rfl
theorem ev_rSetS_1 {P : Program} {w : World} {z} {H : Hp} {Q : VK} : rSetS P w [.str z] H Q = (z.length ≤ 4000 ∧ ∀ p H', H p = none → Same H H' → H' p = some (setT P w p (metK (valT z) z.length)) → Q (.ref p) H') := propext Iff.rfl
theorem ev_rLenT_1 {P : Program} {w : World} {p} {H : Hp} {Q : VK} : rLenT P w [.ref p] H Q = (∃ l, H p = some (setT P w p l) ∧ Q (.int l.length) H) := propext Iff.rfl
theorem ev_iSeqV_1 {K : PySem.W.Frag} {a : Addr} {H : Hp} {R : It → Hp → Prop} : iSeqV K (.ref a) H R = (((∃ xs, SqL K H a xs) ∧ R (Itl K a) H) ∨ ((∃ xs, SqT K H a xs) ∧ R (Itt K a) H)) := propext Iff.rfl
theorem ev_iSeqV_2 {K : PySem.W.Frag} {z : Str} {H : Hp} {R : It → Hp → Prop} : iSeqV K (.str z) H R = R (Itx z) H := propext Iff.rfl
end L2

namespace Kb
open PySem L2
seal L2.PE L2.PA L2.PS L2.PSs L2.PT L2.PW L2.PG L2.PGs L2.PI L2.PO L2.PSet L2.PIf
def top (i : Nat) : Stmt := PySem.Challenge.pw_cablehouse_k11_entries.main.body.getD i (.Pass ⟨0, 0, 0, 0⟩)
abbrev s_are_letters : Stmt := top 3
abbrev s_are_words : Stmt := top 4
abbrev s_is_entry : Stmt := top 8
abbrev s_law_cell_at : Stmt := top 10
abbrev s_law_mixed : Stmt := top 11
abbrev s_law_word : Stmt := top 13
abbrev s_law_some_words : Stmt := top 14
abbrev s_law_entry : Stmt := top 15
abbrev s_law_spoiled : Stmt := top 16
abbrev s_law : Stmt := top 17
/-- the built-in names that the text leaves as they are -/
structure Bl (mg : Str → Option Value) : Prop where
  all : mg "all" = none
  len : mg "len" = none
  isinstance : mg "isinstance" = none
  str : mg "str" = none
  tuple : mg "tuple" = none
  range : mg "range" = none
  list : mg "list" = none
  max : mg "max" = none
  min : mg "min" = none
/-- where the classes stand -/
structure Ads where
  none : Unit := ()
/-- what of the text the classes have -/
structure AdF (K : PySem.W.Frag) (mg : Str → Option Value) (Ad : Ads) : Prop where
  v_SMALL_LETTERS : ∃ u, mg "SMALL_LETTERS" = some u ∧ RelV (.str "abcdefghijklmnopqrstuvwxyz") u
  v_LONGEST_WORD : ∃ u, mg "LONGEST_WORD" = some u ∧ RelV (.int 20) u
  v_MOST_PHRASE_WORDS : ∃ u, mg "MOST_PHRASE_WORDS" = some u ∧ RelV (.int 6) u
  v_MOST_PART_LETTERS : ∃ u, mg "MOST_PART_LETTERS" = some u ∧ RelV (.int 6) u
section
variable {P : Program} {w : World} {K : PySem.W.Frag} {mg : Str → Option Value} {base : Heap} {Ad : Ads}
local macro_rules | `(tactic| and_intros) => `(tactic| try simp only [ap_fld, rFldX, ap_sfld, rSetX, ap_meth, rMethX, ap_make, ap_raise, ap_try, ap_unp, ap_gcons, ap_gnil, rIsiG, Ends.un, putF, ap_asg, ap_gname, ap_var, ap_c, ap_op, ap_un, ap_cb, ap_cons, ap_nil, ap_call, ap_ret, ap_retN, ap_if, ap_next, ap_drop, ap_test, ap_b, ap_not, ap_and, ap_or, ap_andV, ap_orV, ap_notV, ap_ifE, ap_lst, ap_tup, ap_dnew, nw, ap_lc, ap_sl, ap_noPart, ap_part, ap_iList, ap_iSeq, ap_iRng1, ap_iRng2, ap_iZip, ap_for, ap_par, ap_gsub, ap_bm, ap_bm0, ap_chain, ex_bl, ex_int, ex_ref, ex_int1, ex_int2, ex_ref2, ex_two, ex_some, ap_rev, ap_disp1, rIsX, isV, tagV, tagO, Tg.sub, Tg.name, rU, rInX, Option.join_some, Int.toNat_natCast, List.getElem?_cons_zero, List.getElem?_cons_succ, List.set_cons_zero, List.set_cons_succ, start_eq, List.map_cons, List.map_nil, List.cons_append, List.nil_append, List.length_cons, List.length_nil, List.replicate_succ, List.replicate_zero, Nat.reduceAdd, Nat.reduceSub, Nat.zero_add, bne_self_eq_false, Bool.true_bne, Bool.false_bne, Bool.not_true, Bool.not_false, if_true, if_false, Bool.false_eq_true, Bool.true_eq_false, reduceIte, ev_rAddX_1, ev_rAddX_2, ev_rAddX_3, ev_rSubX_1, ev_rMulX_1, ev_rMulX_2, ev_rFdivX_1, ev_rModX_1, ev_rPowX_1, ev_rCmpX_1, ev_rGeL_1, ev_rGeL_2, ev_rEqX_1, ev_rEqX_2, ev_rEqX_3, ev_rEqX_4, ev_rNeX_1, ev_rNeX_2, ev_rNeX_3, ev_rNeX_4, ev_rIxX_1, ev_rIxX_2, ev_rLenX_1, ev_rLenX_2, ev_rAbsX_1, ev_rMinX_1, ev_rMaxX_1, ev_rListX_1, ev_rRngX_1, ev_rIsiC_1, ev_rSlX_1, ev_rSlY_1, ev_rSlY_2, ev_rInsert_1, ev_rIndexS_1, ev_rJoinS_1, ev_rSplit_1, ev_rMulS_1, ev_rSetS_1, ev_rLenT_1, ev_iSeqV_1, ev_iSeqV_2])
local macro_rules | `(tactic| ac_nf) => `(tactic| try simp only [ap_seq, ap_fld, rFldX, ap_sfld, rSetX, ap_meth, rMethX, ap_make, ap_raise, ap_try, ap_unp, ap_gcons, ap_gnil, rIsiG, Ends.un, putF, ap_asg, ap_gname, ap_var, ap_c, ap_op, ap_un, ap_cb, ap_cons, ap_nil, ap_call, ap_ret, ap_retN, ap_if, ap_next, ap_drop, ap_test, ap_b, ap_not, ap_and, ap_or, ap_andV, ap_orV, ap_notV, ap_ifE, ap_lst, ap_tup, ap_dnew, nw, ap_lc, ap_sl, ap_noPart, ap_part, ap_iList, ap_iSeq, ap_iRng1, ap_iRng2, ap_iZip, ap_for, ap_par, ap_gsub, ap_bm, ap_bm0, ap_chain, ex_bl, ex_int, ex_ref, ex_int1, ex_int2, ex_ref2, ex_two, ex_some, ap_rev, ap_disp1, rIsX, isV, tagV, tagO, Tg.sub, Tg.name, rU, rInX, Option.join_some, Int.toNat_natCast, List.getElem?_cons_zero, List.getElem?_cons_succ, List.set_cons_zero, List.set_cons_succ, start_eq, List.map_cons, List.map_nil, List.cons_append, List.nil_append, List.length_cons, List.length_nil, List.replicate_succ, List.replicate_zero, Nat.reduceAdd, Nat.reduceSub, Nat.zero_add, bne_self_eq_false, Bool.true_bne, Bool.false_bne, Bool.not_true, Bool.not_false, if_true, if_false, Bool.false_eq_true, Bool.true_eq_false, reduceIte, ev_rAddX_1, ev_rAddX_2, ev_rAddX_3, ev_rSubX_1, ev_rMulX_1, ev_rMulX_2, ev_rFdivX_1, ev_rModX_1, ev_rPowX_1, ev_rCmpX_1, ev_rGeL_1, ev_rGeL_2, ev_rEqX_1, ev_rEqX_2, ev_rEqX_3, ev_rEqX_4, ev_rNeX_1, ev_rNeX_2, ev_rNeX_3, ev_rNeX_4, ev_rIxX_1, ev_rIxX_2, ev_rLenX_1, ev_rLenX_2, ev_rAbsX_1, ev_rMinX_1, ev_rMaxX_1, ev_rListX_1, ev_rRngX_1, ev_rIsiC_1, ev_rSlX_1, ev_rSlY_1, ev_rSlY_2, ev_rInsert_1, ev_rIndexS_1, ev_rJoinS_1, ev_rSplit_1, ev_rMulS_1, ev_rSetS_1, ev_rLenT_1, ev_iSeqV_1, ev_iSeqV_2])
local macro_rules | `(tactic| bv_omega) => `(tactic| try simp only [ex_bl, ex_int, ex_ref, Bool.not_false, Bool.not_true, if_true, if_false, Bool.false_eq_true, Bool.true_eq_false, true_and, and_true])
def areLet (n : Nat) (l : List Nat) : Bool := decide (1 ≤ l.length) && decide (l.length ≤ n) && l.all fun c => decide (97 ≤ c ∧ c < 123)
def areLetV (n : Nat) : V → Bool
  | .str z => areLet n z.cps.toList
  | _ => false
def areWds (n : Nat) (l : List Nat) : Bool := decide ((Mk.splitL 32 l).length ≤ n) && (Mk.splitL 32 l).all (areLet 20)
def areWdsV (n : Nat) : V → Bool
  | .str z => areWds n z.cps.toList
  | _ => false
/-- whether a thing is an entry: what its tuple has -/
def isEntL : List V → Bool
  | [.str z] => decide (z = ("end" : Str))
  | [.str z, y] => if z = ("phrase" : Str) then areWdsV 6 y else if z = ("part" : Str) then areLetV 6 y else false
  | _ => false
def isEntV (H : Hp) : V → Bool
  | .ref p => match H p with
    | some (.tup xs) => isEntL xs
    | _ => false
  | _ => false
/-- an entry that the law makes, in the heap -/
def EntAt (H : Hp) (p : Addr) : Prop := ∃ (ks : List Key), H p = some (.tup (ks.map kV)) ∧ isEntL (ks.map kV) = true ∧ 1 ≤ ks.length ∧ ks.length ≤ 2 ∧ ∀ z ∈ ks, ∃ l : List Nat, z = .inr (tx l) ∧ l.length ≤ 1000
theorem areLet_of {n : Nat} {l : List Nat} (h1 : 1 ≤ l.length) (h2 : l.length ≤ n) (h3 : ∀ c ∈ l, 97 ≤ c ∧ c < 123) : areLet n l = true := by
  unfold areLet
  rw [decide_eq_true h1, decide_eq_true h2, Bool.true_and, Bool.true_and, List.all_eq_true]
  exact fun c hc => decide_eq_true (h3 c hc)
theorem areWds_of {n : Nat} {ws : List (List Nat)} (h1 : 1 ≤ ws.length) (h2 : ws.length ≤ n) (h3 : ∀ w ∈ ws, 1 ≤ w.length ∧ w.length ≤ 20 ∧ ∀ c ∈ w, 97 ≤ c ∧ c < 123) : areWds n (Mk.joinL 32 ws) = true := by
  unfold areWds
  rw [Mk.split_joinL ws (fun e => by rw [e] at h1; simp at h1) fun w hw hc => by have := (h3 w hw).2.2 32 hc; omega, decide_eq_true h2, Bool.true_and, List.all_eq_true]
  exact fun w hw => areLet_of (h3 w hw).1 (h3 w hw).2.1 (h3 w hw).2.2
theorem join_len {n : Nat} {ws : List (List Nat)} (h2 : ws.length ≤ n) (h3 : ∀ w ∈ ws, w.length ≤ 20) : (Mk.joinL 32 ws).length ≤ 21 * n ∧ (ws.map fun w => w.length + 1).sum ≤ 21 * n := by
  have h := Mk.joinL_len (c := 32) ws
  have : (ws.map fun w => w.length + 1).sum ≤ 21 * ws.length := by
    clear h2 h
    induction ws with
    | nil => simp
    | cons w r ih =>
      have h1 := ih fun x hx => h3 x (List.mem_cons_of_mem _ hx)
      have h2 := h3 w List.mem_cons_self
      simp only [List.map_cons, List.sum_cons, List.length_cons]
      omega
  omega
theorem isEnt_phrase {l : List Nat} (h : areWds 6 l = true) : isEntL [.str ("phrase" : Str), .str (tx l)] = true := by
  show (if ("phrase" : Str) = ("phrase" : Str) then areWds 6 (tx l).cps.toList else if ("phrase" : Str) = ("part" : Str) then areLet 6 (tx l).cps.toList else false) = true
  rw [if_pos rfl, tx_cps]; exact h
theorem isEnt_part {l : List Nat} (h : areLet 6 l = true) : isEntL [.str ("part" : Str), .str (tx l)] = true := by
  show (if ("part" : Str) = ("phrase" : Str) then areWds 6 (tx l).cps.toList else if ("part" : Str) = ("part" : Str) then areLet 6 (tx l).cps.toList else false) = true
  rw [if_neg (by decide), if_pos rfl, tx_cps]; exact h
def sp_are_letters : Sp := fun vs H Q _ => ∃ (x : V) (t : Tg) (n : Nat), vs = [x, .int n] ∧ tagV H x = some t ∧ (∀ z, x = .str z → z.length ≤ 100000) ∧ n ≤ 1000 ∧ ∀ H', Same H H' → Q (.bl (areLetV n x)) H'
theorem sc_are_letters : FnScope ["thing", "most"] ["thing", "most"] (defScope s_are_letters) := ⟨rfl, rfl, rfl, by decide +kernel, rfl, by decide +kernel, by decide +kernel⟩
theorem ok_are_letters {f : Addr} {fd : FuncData} (F : Fun K "are_letters" "are_letters" s_are_letters f fd) (T : Bl mg) (AF : AdF K mg Ad)  : FnOk P w K mg base (CX1 P w) 1 f fd ["thing", "most"] sp_are_letters := by
  refine F.okX (k := 0) sc_are_letters (fun vs H Q E h => ?_) (fun cdv A outer s H vs Q E hr h => ?_)
  · obtain ⟨x, t, n, rfl, _⟩ := h
    rfl
  · obtain ⟨x, t, n, rfl, ht, hz, hn, k⟩ := h
    have hu := hr.units0
    have hu1 := hu_of hr
    refine ⟨_, pss_cons (ps_if ((pw_or (pt_not (pt_val (pe_callBG (call_isiC .str) T.isinstance bt_isinstance (pa_c (pvL 0) (pa_c (pe_tyG T.str bt_str) (pa_nil)))))) (pw_or1 (pt_not (pt_chain op_leX op_leX (pe_int) (pe_callBG (call_lenK (K := K) rfl) T.len bt_len (pa_c (pvL 0) (pa_nil))) (pvL 1))))).pt) (pss_one (ps_ret (pe_bl))) (pss_nil)) (pss_one (ps_ret (pe_callBG (call_allK (K := K) rfl rfl) T.all bt_all (pa_c (pe_lc ["sign"] rfl ⟨rfl, by decide +kernel, rfl, by decide +kernel⟩ (.nil) (by decide +kernel) (pi_seqK (K := K) rfl (pvL 0)) (fun _ _ _ _ => pg_nameL (i := 0) (show (["sign"] : List Str).Nodup from by decide +kernel)) (fun _ _ _ _ => pif_nil) (fun _ _ _ _ => pe_cmpR (op_inK (K := K) rfl hu1) (pvL 0) (pe_globE AF.v_SMALL_LETTERS) (by kernel_rfl))) (pa_nil))))), ?_⟩
    by_cases hs : ∃ z, x = .str z
    · obtain ⟨z, rfl⟩ := hs
      cases ht
      have hl := hz z rfl
      have hc := len_cps z
      have ek : areLetV n (.str z) = areLet n z.cps.toList := rfl
      ac_nf
      refine ⟨trivial, Tg.str, rfl, ?_⟩
      ac_nf
      refine ⟨Nat.le_of_lt (small_line (by omega)), ?_⟩
      by_cases h1 : 1 ≤ z.length
      · rw [decide_eq_true (show (1 : Int) ≤ (z.length : Int) by omega)]
        bv_omega
        by_cases h2 : z.length ≤ n
        · rw [decide_eq_true (show (z.length : Int) ≤ (n : Int) by omega)]
          bv_omega
          refine lc_M (fun c : Nat => V.str ⟨#[c]⟩) inj_sg (seq_sg z) (small_line (by omega)) (fun c => .bl (decide (97 ≤ c ∧ c < 123))) ?_ ?_
          · intro c hc H2 s2 R hR
            ac_nf
            rw [in_one, abc_codes]
            have e2 : decide (c ∈ List.range' 97 26) = decide (97 ≤ c ∧ c < 123) := decide_eq_decide.mpr (by rw [List.mem_range'_1])
            rw [e2]
            exact hR H2 (Same.refl _)
          · intro D H2 hD s2 h2'
            refine ⟨D, z.cps.toList.map fun c => decide (97 ≤ c ∧ c < 123), rfl, .of (by rw [h2', List.map_map]; rfl), ?_⟩
            have e : (z.cps.toList.map fun c => decide (97 ≤ c ∧ c < 123)).all id = areLetV n (.str z) := by
              rw [ek]
              unfold areLet
              rw [decide_eq_true (show 1 ≤ z.cps.toList.length by omega), decide_eq_true (show z.cps.toList.length ≤ n by omega), List.all_map]; rfl
            rw [e]
            exact k H2 s2
        · have e : areLetV n (.str z) = false := by rw [ek]; unfold areLet; rw [decide_eq_false (show ¬ z.cps.toList.length ≤ n by omega)]; simp
          rw [e] at k
          rw [decide_eq_false (show ¬ (z.length : Int) ≤ (n : Int) by omega)]
          bv_omega
          exact k H (Same.refl _)
      · have e : areLetV n (.str z) = false := by rw [ek]; unfold areLet; rw [decide_eq_false (show ¬ 1 ≤ z.cps.toList.length by omega)]; simp
        rw [e] at k
        rw [decide_eq_false (show ¬ (1 : Int) ≤ (z.length : Int) by omega)]
        bv_omega
        exact k H (Same.refl _)
    · have hv : areLetV n x = false := by
        cases x with
        | str z => exact absurd ⟨z, rfl⟩ hs
        | _ => rfl
      have hne := sub_str ht fun z e => hs ⟨z, e⟩
      rw [hv] at k
      ac_nf
      refine ⟨trivial, t, ht, ?_⟩
      cases t <;> first
        | exact absurd rfl hne
        | exact k H (Same.refl _)
def sp_law_cell_at (K : PySem.W.Frag) : Sp := fun vs H Q _ => ∃ (a : Addr) (ns : List Int) (k : Int), vs = [.ref a, .int k] ∧ SqL K H a (ns.map V.int) ∧ 0 ≤ k ∧ Q (.int (ns.getD k.toNat 0)) H
theorem sc_law_cell_at : FnScope ["_law_script", "_law_k"] ["_law_script", "_law_k"] (defScope s_law_cell_at) := ⟨rfl, rfl, rfl, by decide +kernel, rfl, by decide +kernel, by decide +kernel⟩
theorem ok_law_cell_at {f : Addr} {fd : FuncData} (F : Fun K "_law_cell_at" "_law_cell_at" s_law_cell_at f fd) (T : Bl mg) (AF : AdF K mg Ad)  : FnOk P w K mg base (CX1 P w) 1 f fd ["_law_script", "_law_k"] (sp_law_cell_at K) := by
  refine F.okX (k := 0) sc_law_cell_at (fun vs H Q E h => ?_) (fun cdv A outer s H vs Q E hr h => ?_)
  · obtain ⟨a, ns, k, rfl, _⟩ := h
    rfl
  · obtain ⟨a, ns, i, rfl, hS, hi, k⟩ := h
    have hu := hr.units0
    have hu1 := hu_of hr
    refine ⟨_, pss_cons (ps_if (pt_cmpR op_ltX (pvL 1) (pe_callBG (call_lenK (K := K) rfl) T.len bt_len (pa_c (pvL 0) (pa_nil))) (nomark _)) (pss_one (ps_ret (pe_ix (ix_K (K := K) rfl) (pvL 0) (pvL 1) (fun _ _ => rfl)))) (pss_nil)) (pss_one (ps_ret (pe_int))), ?_⟩
    ac_nf
    refine ⟨_, .inl hS, ?_⟩
    rw [List.length_map]
    by_cases hlt : i < (ns.length : Int)
    · rw [if_pos (decide_eq_true hlt)]
      refine ⟨_, .int (ns.getD i.toNat 0), .inl hS, ?_, k⟩
      have e : (ns.map V.int)[i.toNat]? = some (.int (ns.getD i.toNat 0)) := by
        rw [List.getElem?_map, List.getD_eq_getElem?_getD, List.getElem?_eq_getElem (by omega)]; rfl
      have := atI_nat e
      rwa [Int.toNat_of_nonneg hi] at this
    · rw [if_neg (by rw [decide_eq_true_eq]; exact hlt)]
      have e : ns.getD i.toNat 0 = 0 := by rw [List.getD_eq_getElem?_getD, List.getElem?_eq_none (by omega)]; rfl
      rw [e] at k
      exact k
def mix11 (c : Int) : Int := c * 69621 % 2147483629 + 2147483629 * (c % 10 ^ 60)
def sp_law_mixed : Sp := fun vs H Q _ => ∃ c : Int, vs = [.int c] ∧ Q (.int (mix11 c)) H
theorem sc_law_mixed : FnScope ["_law_cell"] ["_law_cell"] (defScope s_law_mixed) := ⟨rfl, rfl, rfl, by decide +kernel, rfl, by decide +kernel, by decide +kernel⟩
theorem ok_law_mixed {f : Addr} {fd : FuncData} (F : Fun K "_law_mixed" "_law_mixed" s_law_mixed f fd) (T : Bl mg) (AF : AdF K mg Ad)  : FnOk P w K mg base (CX1 P w) 1 f fd ["_law_cell"] sp_law_mixed := by
  refine F.okX (k := 0) sc_law_mixed (fun vs H Q E h => ?_) (fun cdv A outer s H vs Q E hr h => ?_)
  · obtain ⟨c, rfl, _⟩ := h
    rfl
  · obtain ⟨c, rfl, k⟩ := h
    have hu := hr.units0
    have hu1 := hu_of hr
    refine ⟨_, pss_one (ps_ret (pe_op op_addX (pe_op op_modX (pe_op op_mulS (pvL 0) (pe_int)) (pe_int)) (pe_op op_mulS (pe_int) (pe_op op_modX (pvL 0) (pe_op op_powX (pe_int) (pe_int)))))), ?_⟩
    ac_nf
    exact ⟨.inr (by decide), by decide, ⟨by decide, by decide, by decide⟩, by decide, .inl (by decide), k⟩
/-- letters of a number, from the first on -/
def lets : Nat → Int → List Nat
  | 0, _ => []
  | n + 1, k => (97 + (k % 26).toNat) :: lets n (k / 26)
theorem lets_len : ∀ (n : Nat) (k : Int), (lets n k).length = n
  | 0, _ => rfl
  | n + 1, k => by show (lets n (k / 26)).length + 1 = _; rw [lets_len]
theorem lets_mem : ∀ (n : Nat) (k : Int), ∀ c ∈ lets n k, 97 ≤ c ∧ c < 123
  | 0, _, c, h => nomatch h
  | n + 1, k, c, h => by
    rcases List.mem_cons.mp h with rfl | h
    · omega
    · exact lets_mem n _ c h
theorem lets_snoc : ∀ (n : Nat) (k : Int), lets (n + 1) k = lets n k ++ [97 + (k / 26 ^ n % 26).toNat]
  | 0, k => by simp [lets]
  | n + 1, k => by
    show (97 + (k % 26).toNat) :: lets (n + 1) (k / 26) = (97 + (k % 26).toNat) :: (lets n (k / 26) ++ _)
    rw [lets_snoc n (k / 26), Int.ediv_ediv_of_nonneg (by decide), ← Int.pow_succ']
theorem some_words : ∀ j : Nat, j < 8 → ∃ w : List Nat, [V.str ("a" : Str), .str ("ab" : Str), .str ("abc" : Str), .str ("b" : Str), .str ("ba" : Str), .str ("cab" : Str), .str ("bb" : Str), .str ("c" : Str)][j]? = some (.str (tx w)) ∧ 1 ≤ w.length ∧ w.length ≤ 20 ∧ ∀ c ∈ w, 97 ≤ c ∧ c < 123
  | 0, _ => ⟨[97], rfl, by decide, by decide, by decide⟩
  | 1, _ => ⟨[97, 98], rfl, by decide, by decide, by decide⟩
  | 2, _ => ⟨[97, 98, 99], rfl, by decide, by decide, by decide⟩
  | 3, _ => ⟨[98], rfl, by decide, by decide, by decide⟩
  | 4, _ => ⟨[98, 97], rfl, by decide, by decide, by decide⟩
  | 5, _ => ⟨[99, 97, 98], rfl, by decide, by decide, by decide⟩
  | 6, _ => ⟨[98, 98], rfl, by decide, by decide, by decide⟩
  | 7, _ => ⟨[99], rfl, by decide, by decide, by decide⟩
  | _ + 8, h => absurd h (by omega)
def sp_law_word : Sp := fun vs H Q _ => ∃ n : Int, vs = [.int n] ∧ 0 ≤ n ∧ ∀ p (w : List Nat) (n' : Int) H', 1 ≤ w.length → w.length ≤ 20 → (∀ c ∈ w, 97 ≤ c ∧ c < 123) → 0 ≤ n' → H p = none → Same H H' → H' p = some (.lst [.str (tx w), .int n']) → Q (.ref p) H'
theorem sc_law_word : FnScope ["_law_number", "_law_letters", "_law_some", "_law_size", "_law_word_here", "_law_k"] ["_law_number"] (defScope s_law_word) := ⟨rfl, rfl, rfl, by decide +kernel, rfl, by decide +kernel, by decide +kernel⟩
theorem ok_law_word {f : Addr} {fd : FuncData} (F : Fun K "_law_word" "_law_word" s_law_word f fd) (T : Bl mg) (AF : AdF K mg Ad)  : FnOk P w K mg base (CX1 P w) 1 f fd ["_law_number"] sp_law_word := by
  refine F.okX (k := 0) sc_law_word (fun vs H Q E h => ?_) (fun cdv A outer s H vs Q E hr h => ?_)
  · obtain ⟨n, rfl, _⟩ := h
    rfl
  · obtain ⟨n, rfl, hn, k⟩ := h
    have hu := hr.units0
    have hu1 := hu_of hr
    refine ⟨_, pss_cons (ps_setL (i := 1) sc_law_word.nd (pe_str)) (pss_cons (ps_setL (i := 2) sc_law_word.nd (pe_lstX (pa_c (pe_str) (pa_c (pe_str) (pa_c (pe_str) (pa_c (pe_str) (pa_c (pe_str) (pa_c (pe_str) (pa_c (pe_str) (pa_c (pe_str) (pa_nil))))))))))) (pss_cons (ps_if (pt_cmpR op_ltX (pe_op op_modX (pvL 0) (pe_int)) (pe_int) (nomark _)) (pss_one (ps_ret (pe_lstX (pa_c (pe_ix (ix_K (K := K) rfl) (pvL 2) (pe_op op_modX (pe_op op_fdivX (pvL 0) (pe_int)) (pe_int)) (fun _ _ => rfl)) (pa_c (pe_op op_fdivX (pvL 0) (pe_int)) (pa_nil)))))) (pss_nil)) (pss_cons (ps_setL (i := 3) sc_law_word.nd (pe_op op_addX (pe_int) (pe_op op_modX (pe_op op_fdivX (pvL 0) (pe_int)) (pe_int)))) (pss_cons (ps_setL (i := 0) sc_law_word.nd (pe_op op_fdivX (pvL 0) (pe_int))) (pss_cons (ps_setL (i := 4) sc_law_word.nd (pe_str)) (pss_cons (ps_for PassesOwn.leaving rfl (pi_range1G T.range (pa_c (pvL 3) (pa_nil))) (pg_nameL (i := 5) sc_law_word.nd) (pss_cons (ps_setL (i := 4) sc_law_word.nd (pe_op op_addX (pvL 4) (pe_ix (ix_K (K := K) rfl) (pvL 1) (pe_op op_modX (pvL 0) (pe_int)) (fun _ _ => rfl)))) (pss_one (ps_setL (i := 0) sc_law_word.nd (pe_op op_fdivX (pvL 0) (pe_int)))))) (pss_one (ps_ret (pe_lstX (pa_c (pvL 4) (pa_c (pvL 0) (pa_nil)))))))))))), ?_⟩
    refine seq_go fun nn hN => ?_
    and_intros
    rw [hN]
    clear hN nn
    refine seq_go fun nn hN => ?_
    and_intros
    refine ⟨Nat.le_of_lt (small_line (by decide)), fun p0 H1 hp0 s1 h1 => ?_⟩
    rw [hN]
    clear hN nn
    refine seq_go fun nn hN => ?_
    and_intros
    refine ⟨by decide, ?_⟩
    by_cases h3 : n % 4 < 3
    · rw [if_pos (decide_eq_true h3)]
      and_intros
      obtain ⟨j, hj⟩ := Int.eq_ofNat_of_zero_le (show 0 ≤ n / 4 % 8 by omega)
      obtain ⟨w, e1, e2, e3, e4⟩ := some_words j (by omega)
      rw [hj]
      refine ⟨⟨by decide, by decide⟩, by decide, _, _, .l h1, atI_nat e1, ⟨by decide, by decide⟩, Nat.le_of_lt (small_line (by decide)), fun p H2 hp s2 h2 => ?_⟩
      exact k p w _ H2 e2 e3 e4 (by omega) (by cases e : H p with | none => rfl | some o => rw [s1 _ _ e] at hp; cases hp) (s1.trans s2) h2
    · rw [if_neg (by simpa using h3), hN]
      clear hN nn
      refine seq_go fun nn hN => ?_
      and_intros
      refine ⟨⟨by decide, by decide⟩, by decide, ?_⟩
      rw [hN]
      clear hN nn
      refine seq_go fun nn hN => ?_
      and_intros
      refine ⟨⟨by decide, by decide⟩, ?_⟩
      rw [hN]
      clear hN nn
      refine seq_go fun nn hN => ?_
      and_intros
      rw [hN]
      clear hN nn
      obtain ⟨sz, hsz⟩ := Int.eq_ofNat_of_zero_le (show 0 ≤ 1 + n / 4 % 20 by omega)
      have hs1 : 1 ≤ sz ∧ sz ≤ 20 := by omega
      have hm0 : 0 ≤ n / 80 := by omega
      generalize n / 80 = m at hm0
      rw [hsz]
      refine seq_go fun nn hN => ?_
      and_intros
      refine ⟨by omega, by omega, ?_⟩
      refine for_rng (n := sz) (fun i σ H' => H' = H1 ∧ ∃ o, σ = [some (.int (m / 26 ^ i)), some (.str ("abcdefghijklmnopqrstuvwxyz" : Str)), some (.ref p0), some (.int (sz : Int)), some (.str (tx (lets i m))), o]) ?_ ?_ ?_
      · exact ⟨rfl, none, by rw [Int.pow_zero, Int.ediv_one]; rfl⟩
      · rintro i σ H' hi ⟨rfl, o, rfl⟩
        have hd : 0 ≤ m / 26 ^ i := Int.ediv_nonneg hm0 (Int.pow_nonneg (by decide))
        have hsn := lets_snoc i m
        have hq : m / 26 ^ (i + 1) = m / 26 ^ i / 26 := by rw [Int.pow_succ, Int.ediv_ediv_of_nonneg (Int.pow_nonneg (by decide))]
        rw [hsn, hq]
        have hll := lets_len i m
        generalize m / 26 ^ i = d at hd
        generalize lets i m = wd at hll
        and_intros
        rw [ap_seq]
        and_intros
        have hc : atI ("abcdefghijklmnopqrstuvwxyz" : Str).cps.toList (d % 26) = some (97 + (d % 26).toNat) := by
          refine atI_of (by omega) ?_
          rw [abc_codes, List.getElem?_range' (by omega)]
          simp
        refine ⟨by decide, Nat.le_of_lt (small_line (by decide)), _, hc, ?_⟩
        rw [show (⟨#[97 + (d % 26).toNat]⟩ : Str) = tx [97 + (d % 26).toNat] from rfl, tx_app, tx_len, tx_len]
        and_intros
        exact ⟨Nat.le_of_lt (small_line (by omega)), ⟨by decide, by decide⟩, trivial, _, rfl⟩
      · rintro σ H' ⟨rfl, o, rfl⟩
        show nn _ _ _
        rw [hN]
        and_intros
        refine ⟨Nat.le_of_lt (small_line (by decide)), fun p H2 hp s2 h2 => ?_⟩
        refine k p (lets sz m) _ H2 (by rw [lets_len]; exact hs1.1) (by rw [lets_len]; exact hs1.2) (lets_mem sz m) ?_ (by cases e : H p with | none => rfl | some o => rw [s1 _ _ e] at hp; cases hp) (s1.trans s2) h2
        exact Int.ediv_nonneg hm0 (Int.pow_nonneg (by decide))
/-- a thing that is no entry, and of which is_entry can be asked -/
def Bad (H : Hp) (v : V) : Prop := (∃ a xs, v = .ref a ∧ H a = some (.tup xs) ∧ xs.length ≤ 1000 ∧ (∀ y ∈ xs, (∃ t, tagV H y = some t) ∧ ∀ z, y = .str z → z.length ≤ 10000) ∧ isEntL xs = false) ∨ ∃ t, tagV H v = some t ∧ t ≠ Tg.tup
theorem Bad.same {H H' : Hp} {v : V} (s : Same H H') (h : Bad H v) : Bad H' v := by
  rcases h with ⟨a, xs, rfl, h1, h2, h3, h4⟩ | ⟨t, h1, h2⟩
  · exact .inl ⟨a, xs, rfl, s _ _ h1, h2, fun y hy => ⟨by obtain ⟨t, ht⟩ := (h3 y hy).1; exact ⟨t, tag_same s ht⟩, (h3 y hy).2⟩, h4⟩
  · exact .inr ⟨t, tag_same s h1, h2⟩
def flatB : V → Bool
  | .non => true
  | .bl _ => true
  | .int _ => true
  | .str z => decide (z.length ≤ 10000)
  | _ => false
theorem flat_tag {H : Hp} {y : V} (h : flatB y = true) : (∃ t, tagV H y = some t) ∧ ∀ z, y = .str z → z.length ≤ 10000 := by
  cases y with
  | non => exact ⟨⟨_, rfl⟩, fun z e => by cases e⟩
  | bl b => exact ⟨⟨_, rfl⟩, fun z e => by cases e⟩
  | int i => exact ⟨⟨_, rfl⟩, fun z e => by cases e⟩
  | str z => exact ⟨⟨_, rfl⟩, fun z e => by cases e; exact of_decide_eq_true h⟩
  | _ => cases h
theorem bad_flat {H : Hp} {a : Addr} {xs : List V} (h : H a = some (.tup xs)) (h1 : (decide (xs.length ≤ 1000) && xs.all flatB && !isEntL xs) = true) : Bad H (.ref a) := by
  simp only [Bool.and_eq_true, decide_eq_true_eq, Bool.not_eq_true'] at h1
  exact .inl ⟨a, xs, rfl, h, h1.1.1, fun y hy => flat_tag (List.all_eq_true.mp h1.1.2 y hy), h1.2⟩
theorem bads_app {H H' : Hp} {xs ys : List V} (s : Same H H') (h1 : ∀ v ∈ xs, Bad H v) (h2 : ∀ v ∈ ys, Bad H' v) : ∀ v ∈ xs ++ ys, Bad H' v := fun v hv => by
  rcases List.mem_append.mp hv with h | h
  · exact (h1 v h).same s
  · exact h2 v h
theorem bads_cons {H : Hp} {x : V} {xs : List V} (h1 : Bad H x) (h2 : ∀ v ∈ xs, Bad H v) : ∀ v ∈ x :: xs, Bad H v := fun v hv => by
  rcases List.mem_cons.mp hv with rfl | h
  · exact h1
  · exact h2 v h
theorem bads_nil {H : Hp} : ∀ v ∈ ([] : List V), Bad H v := fun _ h => nomatch h
def sp_law_spoiled : Sp := fun vs H Q _ => ∃ (e : Addr) (n : Int), vs = [.ref e, .int n] ∧ EntAt H e ∧ 0 ≤ n ∧ ∀ (v : V) H', Same H H' → Bad H' v → Q v H'
theorem sc_law_spoiled : FnScope ["_law_entry_here", "_law_number", "_law_long", "_law_some"] ["_law_entry_here", "_law_number"] (defScope s_law_spoiled) := ⟨rfl, rfl, rfl, by decide +kernel, rfl, by decide +kernel, by decide +kernel⟩
theorem ok_law_spoiled {f : Addr} {fd : FuncData} (F : Fun K "_law_spoiled" "_law_spoiled" s_law_spoiled f fd) (T : Bl mg) (AF : AdF K mg Ad)  : FnOk P w K mg base (CX1 P w) 1 f fd ["_law_entry_here", "_law_number"] sp_law_spoiled := by
  refine F.okX (k := 0) sc_law_spoiled (fun vs H Q E h => ?_) (fun cdv A outer s H vs Q E hr h => ?_)
  · obtain ⟨e, n, rfl, _⟩ := h
    rfl
  · obtain ⟨e, n, rfl, hE, hn, k⟩ := h
    have hu := hr.units0
    have hu1 := hu_of hr
    refine ⟨_, pss_cons (ps_setL (i := 2) sc_law_spoiled.nd (pe_str)) (pss_cons (ps_setL (i := 3) sc_law_spoiled.nd (pe_lstX (pa_c (pe_tupX (pa_c (pe_str) (pa_c (pe_str) (pa_nil)))) (pa_c (pe_tupX (pa_c (pe_str) (pa_nil))) (pa_c (pe_tupX (pa_c (pe_str) (pa_c (pe_str) (pa_c (pe_str) (pa_nil))))) (pa_c (pe_tupX (pa_c (pe_str) (pa_c (pe_str) (pa_nil)))) (pa_c (pe_tupX (pa_c (pe_str) (pa_c (pe_str) (pa_nil)))) (pa_nil)))))))) (pss_cons (ps_setL (i := 3) sc_law_spoiled.nd (pe_op op_addX (pvL 3) (pe_lstX (pa_c (pe_tupX (pa_c (pe_str) (pa_c (pe_str) (pa_nil)))) (pa_c (pe_tupX (pa_c (pe_str) (pa_c (pe_str) (pa_nil)))) (pa_c (pe_tupX (pa_c (pe_str) (pa_c (pe_str) (pa_nil)))) (pa_c (pe_tupX (pa_c (pe_str) (pa_c (pe_str) (pa_nil)))) (pa_nil)))))))) (pss_cons (ps_setL (i := 3) sc_law_spoiled.nd (pe_op op_addX (pvL 3) (pe_lstX (pa_c (pe_tupX (pa_c (pe_str) (pa_c (pvL 2) (pa_nil)))) (pa_c (pe_tupX (pa_c (pe_str) (pa_c (pe_str) (pa_nil)))) (pa_c (pe_tupX (pa_c (pe_str) (pa_c (pe_str) (pa_nil)))) (pa_c (pe_tupX (pa_c (pe_str) (pa_c (pe_str) (pa_nil)))) (pa_nil)))))))) (pss_cons (ps_setL (i := 3) sc_law_spoiled.nd (pe_op op_addX (pvL 3) (pe_lstX (pa_c (pe_tupX (pa_c (pe_str) (pa_c (pe_str) (pa_nil)))) (pa_c (pe_tupX (pa_c (pe_str) (pa_nil))) (pa_c (pe_tupX (pa_c (pe_str) (pa_c (pe_str) (pa_nil)))) (pa_c (pe_tupX (pa_nil)) (pa_c (pe_tupX (pa_c (pe_str) (pa_nil))) (pa_c (pe_tupX (pa_c (pe_str) (pa_c (pe_str) (pa_nil)))) (pa_c (pe_tupX (pa_c (pe_str) (pa_c (pe_non) (pa_nil)))) (pa_nil))))))))))) (pss_cons (ps_setL (i := 3) sc_law_spoiled.nd (pe_op op_addX (pvL 3) (pe_lstX (pa_c (pe_tupX (pa_c (pe_str) (pa_c (pe_int) (pa_nil)))) (pa_c (pe_tupX (pa_c (pe_non) (pa_c (pe_str) (pa_nil)))) (pa_c (pe_tupX (pa_c (pe_int) (pa_nil))) (pa_c (pe_tupX (pa_c (pe_str) (pa_c (pe_str) (pa_nil)))) (pa_c (pe_tupX (pa_c (pe_str) (pa_c (pe_str) (pa_nil)))) (pa_c (pe_tupX (pa_c (pe_tupX (pa_c (pe_str) (pa_nil))) (pa_nil))) (pa_nil)))))))))) (pss_cons (ps_setL (i := 3) sc_law_spoiled.nd (pe_op op_addX (pvL 3) (pe_lstX (pa_c (pe_tupX (pa_c (pe_str) (pa_c (pe_str) (pa_nil)))) (pa_c (pe_tupX (pa_c (pe_str) (pa_c (pe_lstX (pa_c (pe_str) (pa_nil))) (pa_nil)))) (pa_c (pe_callTyG (call_listK (K := K) rfl rfl) T.list bt_list (pa_c (pvL 0) (pa_nil))) (pa_c (pe_ix (ix_K (K := K) rfl) (pvL 0) (pe_int) (fun _ _ => rfl)) (pa_c (pe_non) (pa_c (pe_bl) (pa_c (pe_op op_modX (pvL 1) (pe_int)) (pa_nil))))))))))) (pss_cons (ps_setL (i := 3) sc_law_spoiled.nd (pe_op op_addX (pvL 3) (pe_lstX (pa_c (pe_disp1 hu1 (pvL 0) (pe_int)) (pa_c (pe_op (op_catTK (K := K) rfl) (pvL 0) (pe_tupX (pa_c (pe_str) (pa_nil)))) (pa_c (pe_lstX (pa_c (pe_str) (pa_nil))) (pa_c (pe_tupX (pa_c (pe_str) (pa_c (pe_str) (pa_c (pe_str) (pa_nil))))) (pa_nil)))))))) (pss_one (ps_ret (pe_ix (ix_K (K := K) rfl) (pvL 3) (pe_op op_modX (pvL 1) (pe_callBG (call_lenK (K := K) rfl) T.len bt_len (pa_c (pvL 3) (pa_nil)))) (fun _ _ => rfl))))))))))), ?_⟩
    have big : ∀ {u : Nat}, u ≤ 1000 → u ≤ sizeLine := fun hu => Nat.le_of_lt (small_line (by omega))
    refine seq_go fun nn hN => ?_
    and_intros
    rw [hN]
    clear hN nn
    refine seq_go fun nn hN => ?_
    and_intros
    refine ⟨big (by decide), fun a1 G1 z1 s1 h1 => ?_⟩
    refine ⟨big (by decide), fun a2 G2 z2 s2 h2 => ?_⟩
    refine ⟨big (by decide), fun a3 G3 z3 s3 h3 => ?_⟩
    refine ⟨big (by decide), fun a4 G4 z4 s4 h4 => ?_⟩
    refine ⟨big (by decide), fun a5 G5 z5 s5 h5 => ?_⟩
    refine ⟨big (by simp), fun b0 B0 zB sB hB0 => ?_⟩
    have hBad0 : ∀ v ∈ [V.ref a1, .ref a2, .ref a3, .ref a4, .ref a5], Bad B0 v := bads_cons (bad_flat ((s2.trans (s3.trans (s4.trans (s5.trans sB)))) _ _ h1) (by decide)) (bads_cons (bad_flat ((s3.trans (s4.trans (s5.trans sB))) _ _ h2) (by decide)) (bads_cons (bad_flat ((s4.trans (s5.trans sB)) _ _ h3) (by decide)) (bads_cons (bad_flat ((s5.trans sB) _ _ h4) (by decide)) (bads_cons (bad_flat (sB _ _ h5) (by decide)) (bads_nil)))))
    have sH0 : Same H B0 := s1.trans (s2.trans (s3.trans (s4.trans (s5.trans sB))))
    generalize hxs : [V.ref a1, .ref a2, .ref a3, .ref a4, .ref a5] = xs0 at hB0 hBad0
    have hxl0 : xs0.length = 5 := by rw [← hxs]; rfl
    clear z1 s1 h1 z2 s2 h2 z3 s3 h3 z4 s4 h4 z5 s5 h5 hxs zB sB
    rw [hN]
    clear hN nn
    refine seq_go fun nn hN => ?_
    and_intros
    refine ⟨big (by decide), fun a1 G1 z1 s1 h1 => ?_⟩
    refine ⟨big (by decide), fun a2 G2 z2 s2 h2 => ?_⟩
    refine ⟨big (by decide), fun a3 G3 z3 s3 h3 => ?_⟩
    refine ⟨big (by decide), fun a4 G4 z4 s4 h4 => ?_⟩
    refine ⟨big (by simp), fun c GC zC sC hC => ?_⟩
    have sG : Same B0 GC := s1.trans (s2.trans (s3.trans (s4.trans sC)))
    refine ⟨_, _, sG _ _ hB0, hC, by rw [hxl0]; exact big (by simp), fun b1 B1 zD sD hB1 => ?_⟩
    have hBad1 : ∀ v ∈ xs0 ++ [V.ref a1, .ref a2, .ref a3, .ref a4], Bad B1 v := bads_app (sG.trans sD) hBad0 (bads_cons (bad_flat ((s2.trans (s3.trans (s4.trans (sC.trans sD)))) _ _ h1) (by decide)) (bads_cons (bad_flat ((s3.trans (s4.trans (sC.trans sD))) _ _ h2) (by decide)) (bads_cons (bad_flat ((s4.trans (sC.trans sD)) _ _ h3) (by decide)) (bads_cons (bad_flat ((sC.trans sD) _ _ h4) (by decide)) (bads_nil)))))
    have sH1 := sH0.trans (sG.trans sD)
    generalize hxs : xs0 ++ [V.ref a1, .ref a2, .ref a3, .ref a4] = xs1 at hB1 hBad1
    have hxl1 : xs1.length = 9 := by rw [← hxs, List.length_append, hxl0]; rfl
    clear z1 s1 h1 z2 s2 h2 z3 s3 h3 z4 s4 h4 hxs zC sC hC sG zD sD hB0 hBad0 hxl0 sH0
    rw [hN]
    clear hN nn
    refine seq_go fun nn hN => ?_
    and_intros
    refine ⟨big (by decide), fun a1 G1 z1 s1 h1 => ?_⟩
    refine ⟨big (by decide), fun a2 G2 z2 s2 h2 => ?_⟩
    refine ⟨big (by decide), fun a3 G3 z3 s3 h3 => ?_⟩
    refine ⟨big (by decide), fun a4 G4 z4 s4 h4 => ?_⟩
    refine ⟨big (by simp), fun c GC zC sC hC => ?_⟩
    have sG : Same B1 GC := s1.trans (s2.trans (s3.trans (s4.trans sC)))
    refine ⟨_, _, sG _ _ hB1, hC, by rw [hxl1]; exact big (by simp), fun b2 B2 zD sD hB2 => ?_⟩
    have hBad2 : ∀ v ∈ xs1 ++ [V.ref a1, .ref a2, .ref a3, .ref a4], Bad B2 v := bads_app (sG.trans sD) hBad1 (bads_cons (bad_flat ((s2.trans (s3.trans (s4.trans (sC.trans sD)))) _ _ h1) (by decide)) (bads_cons (bad_flat ((s3.trans (s4.trans (sC.trans sD))) _ _ h2) (by decide)) (bads_cons (bad_flat ((s4.trans (sC.trans sD)) _ _ h3) (by decide)) (bads_cons (bad_flat ((sC.trans sD) _ _ h4) (by decide)) (bads_nil)))))
    have sH2 := sH1.trans (sG.trans sD)
    generalize hxs : xs1 ++ [V.ref a1, .ref a2, .ref a3, .ref a4] = xs2 at hB2 hBad2
    have hxl2 : xs2.length = 13 := by rw [← hxs, List.length_append, hxl1]; rfl
    clear z1 s1 h1 z2 s2 h2 z3 s3 h3 z4 s4 h4 hxs zC sC hC sG zD sD hB1 hBad1 hxl1 sH1
    rw [hN]
    clear hN nn
    refine seq_go fun nn hN => ?_
    and_intros
    refine ⟨big (by decide), fun a1 G1 z1 s1 h1 => ?_⟩
    refine ⟨big (by decide), fun a2 G2 z2 s2 h2 => ?_⟩
    refine ⟨big (by decide), fun a3 G3 z3 s3 h3 => ?_⟩
    refine ⟨big (by decide), fun a4 G4 z4 s4 h4 => ?_⟩
    refine ⟨big (by decide), fun a5 G5 z5 s5 h5 => ?_⟩
    refine ⟨big (by decide), fun a6 G6 z6 s6 h6 => ?_⟩
    refine ⟨big (by decide), fun a7 G7 z7 s7 h7 => ?_⟩
    refine ⟨big (by simp), fun c GC zC sC hC => ?_⟩
    have sG : Same B2 GC := s1.trans (s2.trans (s3.trans (s4.trans (s5.trans (s6.trans (s7.trans sC))))))
    refine ⟨_, _, sG _ _ hB2, hC, by rw [hxl2]; exact big (by simp), fun b3 B3 zD sD hB3 => ?_⟩
    have hBad3 : ∀ v ∈ xs2 ++ [V.ref a1, .ref a2, .ref a3, .ref a4, .ref a5, .ref a6, .ref a7], Bad B3 v := bads_app (sG.trans sD) hBad2 (bads_cons (bad_flat ((s2.trans (s3.trans (s4.trans (s5.trans (s6.trans (s7.trans (sC.trans sD))))))) _ _ h1) (by decide)) (bads_cons (bad_flat ((s3.trans (s4.trans (s5.trans (s6.trans (s7.trans (sC.trans sD)))))) _ _ h2) (by decide)) (bads_cons (bad_flat ((s4.trans (s5.trans (s6.trans (s7.trans (sC.trans sD))))) _ _ h3) (by decide)) (bads_cons (bad_flat ((s5.trans (s6.trans (s7.trans (sC.trans sD)))) _ _ h4) (by decide)) (bads_cons (bad_flat ((s6.trans (s7.trans (sC.trans sD))) _ _ h5) (by decide)) (bads_cons (bad_flat ((s7.trans (sC.trans sD)) _ _ h6) (by decide)) (bads_cons (bad_flat ((sC.trans sD) _ _ h7) (by decide)) (bads_nil))))))))
    have sH3 := sH2.trans (sG.trans sD)
    generalize hxs : xs2 ++ [V.ref a1, .ref a2, .ref a3, .ref a4, .ref a5, .ref a6, .ref a7] = xs3 at hB3 hBad3
    have hxl3 : xs3.length = 20 := by rw [← hxs, List.length_append, hxl2]; rfl
    clear z1 s1 h1 z2 s2 h2 z3 s3 h3 z4 s4 h4 z5 s5 h5 z6 s6 h6 z7 s7 h7 hxs zC sC hC sG zD sD hB2 hBad2 hxl2 sH2
    rw [hN]
    clear hN nn
    refine seq_go fun nn hN => ?_
    and_intros
    refine ⟨big (by decide), fun a1 G1 z1 s1 h1 => ?_⟩
    refine ⟨big (by decide), fun a2 G2 z2 s2 h2 => ?_⟩
    refine ⟨big (by decide), fun a3 G3 z3 s3 h3 => ?_⟩
    refine ⟨big (by decide), fun a4 G4 z4 s4 h4 => ?_⟩
    refine ⟨big (by decide), fun a5 G5 z5 s5 h5 => ?_⟩
    refine ⟨big (by decide), fun a6 G6 z6 s6 h6 => ?_⟩
    refine ⟨big (by decide), fun a7 G7 z7 s7 h7 => ?_⟩
    refine ⟨big (by simp), fun c GC zC sC hC => ?_⟩
    have sG : Same B3 GC := s1.trans (s2.trans (s3.trans (s4.trans (s5.trans (s6.trans (s7.trans sC))))))
    refine ⟨_, _, sG _ _ hB3, hC, by rw [hxl3]; exact big (by simp), fun b4 B4 zD sD hB4 => ?_⟩
    have hBad4 : ∀ v ∈ xs3 ++ [V.ref a1, .ref a2, .ref a3, .ref a4, .ref a5, .ref a7], Bad B4 v := bads_app (sG.trans sD) hBad3 (bads_cons (bad_flat ((s2.trans (s3.trans (s4.trans (s5.trans (s6.trans (s7.trans (sC.trans sD))))))) _ _ h1) (by decide)) (bads_cons (bad_flat ((s3.trans (s4.trans (s5.trans (s6.trans (s7.trans (sC.trans sD)))))) _ _ h2) (by decide)) (bads_cons (bad_flat ((s4.trans (s5.trans (s6.trans (s7.trans (sC.trans sD))))) _ _ h3) (by decide)) (bads_cons (bad_flat ((s5.trans (s6.trans (s7.trans (sC.trans sD)))) _ _ h4) (by decide)) (bads_cons (bad_flat ((s6.trans (s7.trans (sC.trans sD))) _ _ h5) (by decide)) (bads_cons (.inl ⟨a7, _, rfl, (sC.trans sD) _ _ h7, by simp, (fun y hy => by rw [List.mem_singleton.mp hy]; exact ⟨⟨Tg.tup, by show tagO (B4 a6) = _; rw [((s7.trans (sC.trans sD))) _ _ h6]; rfl⟩, fun z e => by cases e⟩), rfl⟩) (bads_nil)))))))
    have sH4 := sH3.trans (sG.trans sD)
    generalize hxs : xs3 ++ [V.ref a1, .ref a2, .ref a3, .ref a4, .ref a5, .ref a7] = xs4 at hB4 hBad4
    have hxl4 : xs4.length = 26 := by rw [← hxs, List.length_append, hxl3]; rfl
    clear z1 s1 h1 z2 s2 h2 z3 s3 h3 z4 s4 h4 z5 s5 h5 z6 s6 h6 z7 s7 h7 hxs zC sC hC sG zD sD hB3 hBad3 hxl3 sH3
    obtain ⟨ks, e1, e2, e3, e4, e5⟩ := hE
    have he4 := sH4 _ _ e1
    rw [hN]
    clear hN nn
    refine seq_go fun nn hN => ?_
    and_intros
    refine ⟨big (by decide), fun a1 G1 z1 s1 h1 => ?_⟩
    refine ⟨big (by decide), fun a2 G2 z2 s2 h2 => ?_⟩
    refine ⟨big (by decide), fun a3 G3 z3 s3 h3 => ?_⟩
    have g3 : Same B4 G3 := s1.trans (s2.trans s3)
    obtain ⟨k0, kr, rfl⟩ : ∃ k0 kr, ks = k0 :: kr := by
      cases ks with
      | nil => simp at e3
      | cons a r => exact ⟨a, r, rfl⟩
    refine ⟨_, .inl (.t (g3 _ _ he4)), fun a4 G4 z4 s4 h4 => ?_⟩
    refine ⟨_, kV k0, .t (s4 _ _ (g3 _ _ he4)), atI_nat (j := 0) rfl, ?_⟩
    obtain ⟨l0, rfl, hl0⟩ := e5 k0 List.mem_cons_self
    and_intros
    refine ⟨by decide, big (by decide), fun c GC zC sC hC => ?_⟩
    have sG : Same B4 GC := g3.trans (s4.trans sC)
    refine ⟨_, _, sG _ _ hB4, hC, by rw [hxl4]; exact big (by simp), fun b5 B5 zD sD hB5 => ?_⟩
    have sCD := sC.trans sD
    have h1' := (s2.trans (s3.trans (s4.trans sCD))) _ _ h1
    have h2' := (s3.trans (s4.trans sCD)) _ _ h2
    have h3' := (s4.trans sCD) _ _ h3
    have h4' := sCD _ _ h4
    have hBad5 : ∀ v ∈ xs4 ++ [V.ref a1, .ref a3, .ref a4, .str (tx l0), .non, .bl true, .int (n % 100)], Bad B5 v := by
      refine bads_app (sG.trans sD) hBad4 (bads_cons (bad_flat h1' (by decide)) (bads_cons (.inl ⟨a3, _, rfl, h3', by simp, fun y hy => ?_, rfl⟩) (bads_cons (.inr ⟨Tg.lst, by show tagO (B5 a4) = _; rw [h4']; rfl, by decide⟩) (bads_cons (.inr ⟨Tg.str, rfl, by decide⟩) (bads_cons (.inr ⟨Tg.non, rfl, by decide⟩) (bads_cons (.inr ⟨Tg.bl, rfl, by decide⟩) (bads_cons (.inr ⟨Tg.int, rfl, by decide⟩) bads_nil)))))))
      rcases List.mem_cons.mp hy with rfl | hy
      · exact flat_tag (by decide)
      · rw [List.mem_singleton.mp hy]
        exact ⟨⟨Tg.lst, by show tagO (B5 a2) = _; rw [h2']; rfl⟩, fun z e => by cases e⟩
    have sH5 := sH4.trans (sG.trans sD)
    have he5 := (sG.trans sD) _ _ he4
    replace hB5 : B5 b5 = some (.lst (xs4 ++ [V.ref a1, .ref a3, .ref a4, .str (tx l0), .non, .bl true, .int (n % 100)])) := hB5
    generalize hxs : xs4 ++ [V.ref a1, .ref a3, .ref a4, .str (tx l0), .non, .bl true, .int (n % 100)] = xs5 at hB5 hBad5
    have hxl5 : xs5.length = 33 := by rw [← hxs, List.length_append, hxl4]; rfl
    clear hxs h1' h2' h3' h4' sCD sG z1 z2 z3 z4 zC zD s1 s2 s3 s4 sC sD h1 h2 h3 h4 hC g3 hB4 hBad4 hxl4 sH4 he4
    rw [hN]
    clear hN nn
    refine seq_go fun nn hN => ?_
    and_intros
    intro pd G1 zd s1 h1
    refine ⟨e, _, rfl, s1 _ _ he5, h1, big (by decide), fun a2 G2 z2 s2 h2 => ?_⟩
    have sU : Same B5 (upd G1 pd (.dT (putK [] (.inr (tx l0) :: kr) (V.int 1)))) := fun q o ho => by
      have : q ≠ pd := fun e' => by rw [e', zd] at ho; cases ho
      rw [upd_ne this]; exact s1 _ _ ho
    have g2 : Same B5 G2 := sU.trans s2
    have hd2 : G2 pd = some (.dT (putK [] (.inr (tx l0) :: kr) (V.int 1))) := s2 _ _ upd_same
    have lk : ((.inr (tx l0) :: kr : List Key).map kV).length ≤ 2 := by rw [List.length_map]; exact e4
    refine ⟨e, a2, _, _, rfl, rfl, .of (g2 _ _ he5), .of h2, by simp, by have : ([V.str (Str.ofString "a")] : List V).length = 1 := rfl; rw [this]; exact big (by omega), (fun h => by cases h), fun _ a3 z3 => ?_⟩
    have s3 : Same G2 (upd G2 a3 (.tup ((.inr (tx l0) :: kr : List Key).map kV ++ [V.str (Str.ofString "a")]))) := same_upd z3
    have h3 : upd G2 a3 (.tup ((.inr (tx l0) :: kr : List Key).map kV ++ [V.str (Str.ofString "a")])) a3 = some (.tup ((.inr (tx l0) :: kr : List Key).map kV ++ [V.str (Str.ofString "a")])) := upd_same
    generalize upd G2 a3 (.tup ((.inr (tx l0) :: kr : List Key).map kV ++ [V.str (Str.ofString "a")])) = G3 at s3 h3
    refine ⟨big (by decide), fun a4 G4 z4 s4 h4 => ⟨big (by decide), fun a5 G5 z5 s5 h5 => ⟨big (by decide), fun c GC zC sC hC => ?_⟩⟩⟩
    have sG : Same B5 GC := g2.trans (s3.trans (s4.trans (s5.trans sC)))
    refine ⟨xs5, _, sG _ _ hB5, hC, by rw [hxl5]; exact big (by simp), fun b6 B6 zD sD hB6 => ?_⟩
    have sCD := sC.trans sD
    have hBad6 : ∀ v ∈ xs5 ++ [V.ref pd, .ref a3, .ref a4, .ref a5], Bad B6 v := by
      refine bads_app (sG.trans sD) hBad5 (bads_cons (.inr ⟨Tg.dct, ?_, by decide⟩) (bads_cons (.inl ⟨a3, _, rfl, (s4.trans (s5.trans sCD)) _ _ h3, ?_, ?_, ?_⟩) (bads_cons (.inr ⟨Tg.lst, ?_, by decide⟩) (bads_cons (bad_flat (sCD _ _ h5) (by decide)) bads_nil))))
      · show tagO (B6 pd) = _
        rw [(s3.trans (s4.trans (s5.trans sCD))) _ _ hd2]; rfl
      · have : ([V.str (Str.ofString "a")] : List V).length = 1 := rfl
        rw [List.length_append, this]; omega
      · intro y hy
        rcases List.mem_append.mp hy with hy | hy
        · obtain ⟨kk, hk, rfl⟩ := List.mem_map.mp hy
          obtain ⟨l, rfl, hl⟩ := e5 kk hk
          refine flat_tag (decide_eq_true ?_)
          rw [tx_len]; omega
        · rw [List.mem_singleton.mp hy]
          exact flat_tag (by decide)
      · cases kr with
        | nil =>
          have : decide (tx l0 = ("end" : Str)) = true := e2
          have e6 := of_decide_eq_true this
          show isEntL [.str (tx l0), .str (Str.ofString "a")] = false
          rw [e6]
          decide
        | cons k1 kr =>
          show isEntL (.str (tx l0) :: kV k1 :: (kr.map kV ++ [V.str (Str.ofString "a")])) = false
          cases kr <;> rfl
      · show tagO (B6 a4) = _
        rw [(s5.trans sCD) _ _ h4]; rfl
    have sH6 := sH5.trans (sG.trans sD)
    generalize hxs : xs5 ++ [V.ref pd, .ref a3, .ref a4, .ref a5] = xs6 at hB6 hBad6
    have hxl6 : xs6.length = 37 := by rw [← hxs, List.length_append, hxl5]; rfl
    rw [hN]
    clear hN nn
    and_intros
    refine ⟨xs6, .l hB6, ?_⟩
    rw [hxl6]
    refine ⟨by decide, ?_⟩
    obtain ⟨j, hj⟩ := Int.eq_ofNat_of_zero_le (show 0 ≤ n % ((37 : Nat) : Int) by omega)
    have hj2 : j < xs6.length := by omega
    rw [hj]
    have hv : xs6[j]? = some xs6[j] := List.getElem?_eq_getElem hj2
    exact ⟨_, _, .l hB6, atI_nat hv, k _ _ sH6 (hBad6 _ (List.getElem_mem hj2))⟩
def sp_are_words : Sp := fun vs H Q _ => ∃ (x : V) (t : Tg) (n : Nat), vs = [x, .int n] ∧ tagV H x = some t ∧ (∀ z, x = .str z → z.length ≤ 10000) ∧ n ≤ 1000 ∧ ∀ H', Same H H' → Q (.bl (areWdsV n x)) H'
theorem sc_are_words : FnScope ["thing", "most", "words"] ["thing", "most"] (defScope s_are_words) := ⟨rfl, rfl, rfl, by decide +kernel, rfl, by decide +kernel, by decide +kernel⟩
theorem ok_are_words {f : Addr} {fd : FuncData} (F : Fun K "are_words" "are_words" s_are_words f fd) (T : Bl mg) (AF : AdF K mg Ad) (C_are_letters : Fnc P w K mg base (CX1 P w) 1 "are_letters" ["thing", "most"] sp_are_letters) : FnOk P w K mg base (CX1 P w) 2 f fd ["thing", "most"] sp_are_words := by
  refine F.okX (k := 1) sc_are_words (fun vs H Q E h => ?_) (fun cdv A outer s H vs Q E hr h => ?_)
  · obtain ⟨x, t, n, rfl, _⟩ := h
    rfl
  · obtain ⟨x, t, n, rfl, ht, hz, hn, k⟩ := h
    have hu := hr.units0
    have hu1 := hu_of hr
    refine ⟨_, pss_cons (ps_if (pt_not (pt_val (pe_callBG (call_isiC .str) T.isinstance bt_isinstance (pa_c (pvL 0) (pa_c (pe_tyG T.str bt_str) (pa_nil)))))) (pss_one (ps_ret (pe_bl))) (pss_nil)) (pss_cons (ps_setL (i := 2) sc_are_words.nd (pe_bmG (K := K) rfl PySem.F.plainAttrs_str PySem.F.slot_str_split PySem.F.type_str_split mt_split (pvL 0) (pa_c (pe_str) (pa_nil)))) (pss_one (ps_ret (pe_and (pe_cmpR op_leX (pe_callBG (call_lenK (K := K) rfl) T.len bt_len (pa_c (pvL 2) (pa_nil))) (pvL 1) (nomark _)) (pe_one (pe_callBG (call_allK (K := K) rfl rfl) T.all bt_all (pa_c (pe_lc ["word"] rfl ⟨rfl, by decide +kernel, rfl, by decide +kernel⟩ (.nil) (by decide +kernel) (pi_seqK (K := K) rfl (pvL 2)) (fun _ _ _ _ => pg_nameL (i := 0) (show (["word"] : List Str).Nodup from by decide +kernel)) (fun _ _ _ _ => pif_nil) (fun _ _ _ _ => pe_callG C_are_letters passE0 (hr.mono (by decide)) (pa_c (pvL 0) (pa_c (pe_globE AF.v_LONGEST_WORD) (pa_nil))))) (pa_nil)))))))), ?_⟩
    by_cases hs : ∃ z, x = .str z
    · obtain ⟨z, rfl⟩ := hs
      cases ht
      have hl := hz z rfl
      have hc := len_cps z
      have ek : areWdsV n (.str z) = areWds n z.cps.toList := rfl
      ac_nf
      refine ⟨trivial, Tg.str, rfl, ?_⟩
      ac_nf
      obtain ⟨sl1, sl2⟩ := Mk.splitL_mem (c := 32) z.cps.toList
      refine ⟨rfl, by omega, 32, rfl, fun p H1 hp s1 h1 => ⟨_, .l h1, ?_⟩⟩
      rw [List.length_map]
      by_cases h2 : (Mk.splitL 32 z.cps.toList).length ≤ n
      · rw [decide_eq_true (show ((Mk.splitL 32 z.cps.toList).length : Int) ≤ (n : Int) by omega)]
        bv_omega
        refine .inl ⟨⟨_, .of h1⟩, lc_M (fun w : List Nat => V.str (tx w)) (fun a b e => tx_inj (V.str.inj e)) (seq_list (.of h1)) (small_line (by omega)) (fun w => .bl (areLet 20 w)) ?_ ?_⟩
        · intro w hw H2 s2 R hR
          have hwl := sl2 w hw
          ac_nf
          refine ⟨_, Tg.str, 20, rfl, rfl, (fun y e => by cases e; rw [tx_len]; omega), by decide, fun H3 s3 => ?_⟩
          have e : areLetV 20 (.str (tx w)) = areLet 20 w := by show areLet 20 (tx w).cps.toList = _; rw [tx_cps]
          rw [e]
          exact hR H3 s3
        · intro D H2 hD s2 h2'
          refine ⟨D, (Mk.splitL 32 z.cps.toList).map (areLet 20), rfl, .of (by rw [h2', List.map_map]; rfl), ?_⟩
          have e : ((Mk.splitL 32 z.cps.toList).map (areLet 20)).all id = areWdsV n (.str z) := by
            rw [ek]
            unfold areWds
            rw [decide_eq_true h2, List.all_map]; rfl
          rw [e]
          exact k H2 (s1.trans s2)
      · have e : areWdsV n (.str z) = false := by rw [ek]; unfold areWds; rw [decide_eq_false h2]; rfl
        rw [e] at k
        rw [decide_eq_false (show ¬ ((Mk.splitL 32 z.cps.toList).length : Int) ≤ (n : Int) by omega)]
        bv_omega
        exact k H1 s1
    · have hv : areWdsV n x = false := by
        cases x with
        | str z => exact absurd ⟨z, rfl⟩ hs
        | _ => rfl
      have hne := sub_str ht fun z e => hs ⟨z, e⟩
      rw [hv] at k
      ac_nf
      refine ⟨trivial, t, ht, ?_⟩
      cases t <;> first
        | exact absurd rfl hne
        | exact k H (Same.refl _)
def sp_law_some_words : Sp := fun vs H Q _ => ∃ (n : Int) (j : Nat), vs = [.int n, .int j] ∧ 0 ≤ n ∧ j ≤ 6 ∧ ∀ p (ws : List (List Nat)) H', ws.length = j → (∀ w ∈ ws, 1 ≤ w.length ∧ w.length ≤ 20 ∧ ∀ c ∈ w, 97 ≤ c ∧ c < 123) → H p = none → Same H H' → H' p = some (.lst (ws.map fun w => .str (tx w))) → Q (.ref p) H'
theorem sc_law_some_words : FnScope ["_law_number", "_law_many", "_law_words", "_law_k", "_law_word_here"] ["_law_number", "_law_many"] (defScope s_law_some_words) := ⟨rfl, rfl, rfl, by decide +kernel, rfl, by decide +kernel, by decide +kernel⟩
theorem ok_law_some_words {f : Addr} {fd : FuncData} (F : Fun K "_law_some_words" "_law_some_words" s_law_some_words f fd) (T : Bl mg) (AF : AdF K mg Ad) (C_law_word : Fnc P w K mg base (CX1 P w) 1 "_law_word" ["_law_number"] sp_law_word) : FnOk P w K mg base (CX1 P w) 2 f fd ["_law_number", "_law_many"] sp_law_some_words := by
  refine F.okX (k := 1) sc_law_some_words (fun vs H Q E h => ?_) (fun cdv A outer s H vs Q E hr h => ?_)
  · obtain ⟨n, j, rfl, _⟩ := h
    rfl
  · obtain ⟨n, j, rfl, hn, hj, k⟩ := h
    have hu := hr.units0
    have hu1 := hu_of hr
    refine ⟨_, pss_cons (ps_setL (i := 2) sc_law_some_words.nd (pe_lstX (pa_nil))) (pss_cons (ps_for PassesOwn.leaving rfl (pi_range1G T.range (pa_c (pvL 1) (pa_nil))) (pg_nameL (i := 3) sc_law_some_words.nd) (pss_cons (ps_asg (pe_callG C_law_word pass_def (hr.mono (by decide)) (pa_c (pvL 0) (pa_nil))) (pg_unpK (K := K) (n := 2) rfl rfl (pgs_cons (pg_nameL (i := 4) sc_law_some_words.nd) (pgs_cons (pg_nameL (i := 0) sc_law_some_words.nd) (pgs_nil))))) (pss_one (ps_expr (pe_bmG (K := K) rfl PySem.F.plainAttrs_list PySem.F.slot_list_append PySem.F.type_list_append mt_append (pvL 2) (pa_c (pvL 4) (pa_nil))))))) (pss_one (ps_ret (pvL 2)))), ?_⟩
    refine seq_go fun nn hN => ?_
    and_intros
    refine ⟨Nat.zero_le _, fun p H1 hp s1 h1 => ?_⟩
    rw [hN]
    clear hN nn
    refine seq_go fun nn hN => ?_
    and_intros
    refine ⟨by omega, by omega, ?_⟩
    refine for_rngO (n := j) (fun i σ H' => ∃ (ws : List (List Nat)) (n' : Int) (o3 o4 : Option V), σ = [some (.int n'), some (.int (j : Int)), some (.ref p), o3, o4] ∧ 0 ≤ n' ∧ ws.length = i ∧ (∀ w ∈ ws, 1 ≤ w.length ∧ w.length ≤ 20 ∧ ∀ c ∈ w, 97 ≤ c ∧ c < 123) ∧ (∀ b o, b ≠ p → H1 b = some o → H' b = some o) ∧ H' p = some (.lst (ws.map fun w => .str (tx w)))) ?_ ?_ ?_
    · exact ⟨[], n, none, none, rfl, hn, rfl, (fun _ h => nomatch h), fun _ _ _ h => h, h1⟩
    · rintro i σ H2 hi ⟨ws, n', o3, o4, rfl, hn', hwl, hw, f1, f2⟩ N hNx
      clear hN
      and_intros
      rw [ap_seq]
      and_intros
      refine ⟨n', rfl, hn', fun q w n2 H3 w1 w2 w3 hn2 hq s3 h3 => ?_⟩
      and_intros
      refine ⟨_, .l h3, rfl, ?_⟩
      have f2' := s3 _ _ f2
      and_intros
      refine ⟨.inl ⟨rfl, _, .of f2'⟩, p, _, _, rfl, rfl, f2', ?_, hNx _ _ ⟨ws ++ [w], n2, _, _, rfl, hn2, ?_, ?_, fun b o hb e => ?_, ?_⟩⟩
      · rw [List.length_map]; exact small_line (by omega)
      · rw [List.length_append, List.length_singleton]; omega
      · intro w' hw'
        rcases List.mem_append.mp hw' with hw' | hw'
        · exact hw w' hw'
        · rw [List.mem_singleton.mp hw']; exact ⟨w1, w2, w3⟩
      · rw [upd_ne hb]; exact s3 _ _ (f1 b o hb e)
      · rw [upd_same, List.map_append]; rfl
    · rintro σ H2 ⟨ws, n', o3, o4, rfl, hn', hwl, hw, f1, f2⟩
      show nn _ _ _
      rw [hN]
      and_intros
      refine k p ws H2 hwl hw hp (fun b o e => f1 b o (fun e2 => by rw [← e2, e] at hp; cases hp) (s1 b o e)) f2
def sp_is_entry : Sp := fun vs H Q _ => ∃ (x : V) (t : Tg), vs = [x] ∧ tagV H x = some t ∧ (∀ p xs, x = .ref p → H p = some (.tup xs) → xs.length ≤ 1000 ∧ ∀ y ∈ xs, (∃ t, tagV H y = some t) ∧ ∀ z, y = .str z → z.length ≤ 10000) ∧ ∀ H', Same H H' → Q (.bl (isEntV H x)) H'
theorem sc_is_entry : FnScope ["thing"] ["thing"] (defScope s_is_entry) := ⟨rfl, rfl, rfl, by decide +kernel, rfl, by decide +kernel, by decide +kernel⟩
theorem ok_is_entry {f : Addr} {fd : FuncData} (F : Fun K "is_entry" "is_entry" s_is_entry f fd) (T : Bl mg) (AF : AdF K mg Ad) (C_are_letters : Fnc P w K mg base (CX1 P w) 1 "are_letters" ["thing", "most"] sp_are_letters) (C_are_words : Fnc P w K mg base (CX1 P w) 2 "are_words" ["thing", "most"] sp_are_words) : FnOk P w K mg base (CX1 P w) 3 f fd ["thing"] sp_is_entry := by
  refine F.okX (k := 2) sc_is_entry (fun vs H Q E h => ?_) (fun cdv A outer s H vs Q E hr h => ?_)
  · obtain ⟨x, t, rfl, _⟩ := h
    rfl
  · obtain ⟨x, t, rfl, ht, hit, k⟩ := h
    have hu := hr.units0
    have hu1 := hu_of hr
    refine ⟨_, pss_cons (ps_if ((pw_or (pt_not (pt_val (pe_callBG (call_isiC .tup) T.isinstance bt_isinstance (pa_c (pvL 0) (pa_c (pe_tyG T.tuple bt_tuple) (pa_nil)))))) (pw_or (pt_cmpR (op_eqK (K := K) rfl hu) (pe_callBG (call_lenK (K := K) rfl) T.len bt_len (pa_c (pvL 0) (pa_nil))) (pe_int) (nomark _)) (pw_or1 (pt_not (pt_val (pe_callBG (call_isiC .str) T.isinstance bt_isinstance (pa_c (pe_ix (ix_K (K := K) rfl) (pvL 0) (pe_int) (fun _ _ => rfl)) (pa_c (pe_tyG T.str bt_str) (pa_nil))))))))).pt) (pss_one (ps_ret (pe_bl))) (pss_nil)) (pss_cons (ps_if (pt_cmpR (op_eqK (K := K) rfl hu) (pe_callBG (call_lenK (K := K) rfl) T.len bt_len (pa_c (pvL 0) (pa_nil))) (pe_int) (nomark _)) (pss_one (ps_ret (pe_cmpR (op_eqK (K := K) rfl hu) (pe_ix (ix_K (K := K) rfl) (pvL 0) (pe_int) (fun _ _ => rfl)) (pe_str) (nomark _)))) (pss_nil)) (pss_cons (ps_if (pt_cmpR (op_neK (K := K) rfl hu) (pe_callBG (call_lenK (K := K) rfl) T.len bt_len (pa_c (pvL 0) (pa_nil))) (pe_int) (nomark _)) (pss_one (ps_ret (pe_bl))) (pss_nil)) (pss_cons (ps_if (pt_cmpR (op_eqK (K := K) rfl hu) (pe_ix (ix_K (K := K) rfl) (pvL 0) (pe_int) (fun _ _ => rfl)) (pe_str) (nomark _)) (pss_one (ps_ret (pe_callG C_are_words pass_def (hr.mono (by decide)) (pa_c (pe_ix (ix_K (K := K) rfl) (pvL 0) (pe_int) (fun _ _ => rfl)) (pa_c (pe_globE AF.v_MOST_PHRASE_WORDS) (pa_nil)))))) (pss_nil)) (pss_one (ps_ret (pe_and (pe_cmpR (op_eqK (K := K) rfl hu) (pe_ix (ix_K (K := K) rfl) (pvL 0) (pe_int) (fun _ _ => rfl)) (pe_str) (nomark _)) (pe_one (pe_callG C_are_letters pass_def (hr.mono (by decide)) (pa_c (pe_ix (ix_K (K := K) rfl) (pvL 0) (pe_int) (fun _ _ => rfl)) (pa_c (pe_globE AF.v_MOST_PART_LETTERS) (pa_nil))))))))))), ?_⟩
    by_cases hs : ∃ p xs, x = .ref p ∧ H p = some (.tup xs)
    · obtain ⟨p, xs, rfl, hp⟩ := hs
      obtain ⟨hl, hty⟩ := hit p xs rfl hp
      have et : t = Tg.tup := by
        have : tagO (H p) = some t := ht
        rw [hp] at this; cases this; rfl
      subst et
      have ek : isEntV H (.ref p) = isEntL xs := by
        show (match H p with | some (.tup xs) => isEntL xs | _ => false) = _
        rw [hp]
      rw [ek] at k
      have hT : Sq K H p xs := .t hp
      rw [ap_seq]
      and_intros
      refine ⟨trivial, Tg.tup, ht, ?_⟩
      and_intros
      refine ⟨_, hT, ?_⟩
      match xs, hT, hty, hl, k with
      | [], hT, hty, hl, k =>
        and_intros
        exact k H (Same.refl _)
      | v :: r, hT, hty, hl, k =>
        rw [decide_eq_false (show ¬ (((v :: r).length : Nat) : Int) = 0 by rw [List.length_cons]; omega)]
        bv_omega
        have a0 : atI (v :: r) 0 = some v := atI_nat (xs := v :: r) (j := 0) rfl
        refine ⟨_, v, hT, a0, ?_⟩
        obtain ⟨⟨tv, htv⟩, hzv⟩ := hty v List.mem_cons_self
        by_cases hvs : ∃ z, v = .str z
        · obtain ⟨z, rfl⟩ := hvs
          refine ⟨Tg.str, rfl, ?_⟩
          and_intros
          rw [ap_seq]
          and_intros
          refine ⟨_, hT, ?_⟩
          match r, hT, hty, hl, k with
          | [], hT, hty, hl, k =>
            and_intros
            rw [if_pos (by rfl)]
            refine ⟨_, _, hT, atI_nat (xs := [V.str z]) (j := 0) rfl, k H (Same.refl _)⟩
          | [y], hT, hty, hl, k =>
            rw [decide_eq_false (show ¬ ((([V.str z, y] : List V).length : Nat) : Int) = 1 by show ¬ (2 : Int) = 1; decide)]
            bv_omega
            obtain ⟨⟨ty, hty1⟩, hzy⟩ := hty y (List.mem_cons_of_mem _ List.mem_cons_self)
            have a0 : atI [V.str z, y] 0 = some (.str z) := atI_nat (xs := [V.str z, y]) (j := 0) rfl
            have a1 : atI [V.str z, y] 1 = some y := atI_nat (xs := [V.str z, y]) (j := 1) rfl
            rw [ap_seq]
            and_intros
            refine ⟨_, hT, ?_⟩
            rw [if_neg (show ¬ (!decide ((([V.str z, y].length : Nat) : Int) = 2)) = true by rw [show [V.str z, y].length = 2 from rfl]; decide)]
            rw [ap_seq]
            and_intros
            refine ⟨_, _, hT, a0, ?_⟩
            and_intros
            have ek2 : isEntL [.str z, y] = if z = ("phrase" : Str) then areWdsV 6 y else if z = ("part" : Str) then areLetV 6 y else false := rfl
            rw [ek2] at k
            by_cases e1 : z = ("phrase" : Str)
            · rw [if_pos e1] at k
              rw [decide_eq_true e1]
              bv_omega
              refine ⟨_, _, hT, a1, ?_⟩
              exact ⟨y, ty, 6, rfl, hty1, hzy, by decide, k⟩
            · rw [if_neg e1] at k
              rw [decide_eq_false e1]
              bv_omega
              and_intros
              refine ⟨_, _, hT, a0, ?_⟩
              and_intros
              by_cases e2 : z = ("part" : Str)
              · rw [if_pos e2] at k
                rw [decide_eq_true e2]
                bv_omega
                refine ⟨_, _, hT, a1, ?_⟩
                exact ⟨y, ty, 6, rfl, hty1, (fun w e => by have := hzy w e; omega), by decide, k⟩
              · rw [if_neg e2] at k
                rw [decide_eq_false e2]
                bv_omega
                exact k H (Same.refl _)
          | y :: y2 :: r, hT, hty, hl, k =>
            have hlen : (V.str z :: y :: y2 :: r).length = r.length + 3 := rfl
            rw [hlen, decide_eq_false (show ¬ (((r.length + 3 : Nat)) : Int) = 1 by omega)]
            bv_omega
            rw [ap_seq]
            and_intros
            refine ⟨_, hT, ?_⟩
            rw [hlen, decide_eq_false (show ¬ (((r.length + 3 : Nat)) : Int) = 2 by omega)]
            bv_omega
            exact k H (Same.refl _)
        · have hv : isEntL (v :: r) = false := by
            cases v with
            | str z => exact absurd ⟨z, rfl⟩ hvs
            | _ => cases r with
              | nil => rfl
              | cons y r => cases r <;> rfl
          have hne := sub_str htv fun z e => hvs ⟨z, e⟩
          rw [hv] at k
          refine ⟨tv, htv, ?_⟩
          cases tv <;> first
            | exact absurd rfl hne
            | exact k H (Same.refl _)
    · have hv : isEntV H x = false := by
        cases x with
        | ref p =>
          show (match H p with | some (.tup xs) => isEntL xs | _ => false) = _
          split
          · rename_i xs hp; exact absurd ⟨p, xs, rfl, hp⟩ hs
          · rfl
        | _ => rfl
      have hne : t ≠ Tg.tup := fun e => by
        subst e
        cases x with
        | ref a =>
          have h' : tagO (H a) = some .tup := ht
          cases e : H a with
          | none => rw [e] at h'; cases h'
          | some o => rw [e] at h'; cases o with
            | tup xs => exact hs ⟨a, xs, rfl, e⟩
            | frz ob u => cases u <;> cases h'
            | _ => cases h'
        | _ => cases ht
      rw [hv] at k
      rw [ap_seq]
      and_intros
      refine ⟨trivial, t, ht, ?_⟩
      cases t <;> first
        | exact absurd rfl hne
        | exact k H (Same.refl _)
def sp_law_entry : Sp := fun vs H Q _ => ∃ n : Int, vs = [.int n] ∧ 0 ≤ n ∧ ∀ p H', H p = none → Same H H' → EntAt H' p → Q (.ref p) H'
theorem sc_law_entry : FnScope ["_law_number", "_law_turn", "_law_many"] ["_law_number"] (defScope s_law_entry) := ⟨rfl, rfl, rfl, by decide +kernel, rfl, by decide +kernel, by decide +kernel⟩
theorem ok_law_entry {f : Addr} {fd : FuncData} (F : Fun K "_law_entry" "_law_entry" s_law_entry f fd) (T : Bl mg) (AF : AdF K mg Ad) (C_law_some_words : Fnc P w K mg base (CX1 P w) 2 "_law_some_words" ["_law_number", "_law_many"] sp_law_some_words) (C_law_word : Fnc P w K mg base (CX1 P w) 1 "_law_word" ["_law_number"] sp_law_word) : FnOk P w K mg base (CX1 P w) 3 f fd ["_law_number"] sp_law_entry := by
  refine F.okX (k := 2) sc_law_entry (fun vs H Q E h => ?_) (fun cdv A outer s H vs Q E hr h => ?_)
  · obtain ⟨n, rfl, _⟩ := h
    rfl
  · obtain ⟨n, rfl, hn, k⟩ := h
    have hu := hr.units0
    have hu1 := hu_of hr
    refine ⟨_, pss_cons (ps_setL (i := 1) sc_law_entry.nd (pe_op op_modX (pvL 0) (pe_int))) (pss_cons (ps_setL (i := 0) sc_law_entry.nd (pe_op op_fdivX (pvL 0) (pe_int))) (pss_cons (ps_if (pt_cmpR (op_eqK (K := K) rfl hu) (pvL 1) (pe_int) (nomark _)) (pss_one (ps_ret (pe_tupX (pa_c (pe_str) (pa_nil))))) (pss_nil)) (pss_cons (ps_if (pt_cmpR op_gtX (pvL 1) (pe_int) (nomark _)) (pss_one (ps_ret (pe_tupX (pa_c (pe_str) (pa_c (pe_slice (sl_YK (K := K) rfl) (pe_ix (ix_K (K := K) rfl) (pe_callG C_law_word pass_def (hr.mono (by decide)) (pa_c (pvL 0) (pa_nil))) (pe_int) (fun _ _ => rfl)) (po_none) (po_some (pe_int))) (pa_nil)))))) (pss_nil)) (pss_cons (ps_setL (i := 2) sc_law_entry.nd (pe_op op_addX (pe_int) (pe_op op_modX (pvL 0) (pe_int)))) (pss_cons (ps_if (pt_cmpR op_gtX (pvL 1) (pe_int) (nomark _)) (pss_one (ps_setL (i := 2) sc_law_entry.nd (pe_op op_addX (pe_int) (pe_op op_modX (pvL 0) (pe_int))))) (pss_nil)) (pss_one (ps_ret (pe_tupX (pa_c (pe_str) (pa_c (pe_bmG (K := K) rfl PySem.F.plainAttrs_str PySem.F.slot_str_join PySem.F.type_str_join (mt_joinK (K := K) rfl) (pe_str) (pa_c (pe_callG C_law_some_words pass_def (hr.mono (by decide)) (pa_c (pe_op op_fdivX (pvL 0) (pe_int)) (pa_c (pvL 2) (pa_nil)))) (pa_nil))) (pa_nil))))))))))), ?_⟩
    refine seq_go fun nn hN => ?_
    and_intros
    refine ⟨by decide, ?_⟩
    rw [hN]
    clear hN nn
    refine seq_go fun nn hN => ?_
    and_intros
    refine ⟨⟨by decide, by decide⟩, ?_⟩
    have ht0 : 0 ≤ n % 9 ∧ n % 9 < 9 := by omega
    have hm0 : 0 ≤ n / 9 := by omega
    generalize n % 9 = tn at ht0
    generalize n / 9 = m at hm0
    rw [hN]
    clear hN nn
    refine seq_go fun nn hN => ?_
    and_intros
    by_cases e8 : tn = 8
    · rw [decide_eq_true e8]
      bv_omega
      refine ⟨Nat.le_of_lt (small_line (by decide)), fun p H1 hp s1 h1 => k p H1 hp s1 ⟨[.inr ("end" : Str)], h1, rfl, by decide, by decide, fun z hz => ?_⟩⟩
      rw [List.mem_singleton.mp hz]
      exact ⟨[101, 110, 100], rfl, by decide⟩
    rw [decide_eq_false e8]
    bv_omega
    rw [hN]
    clear hN nn
    refine seq_go fun nn hN => ?_
    and_intros
    by_cases e4 : 4 < tn
    · rw [decide_eq_true e4]
      bv_omega
      refine ⟨m, rfl, hm0, fun q w n2 H1 w1 w2 w3 hn2 hq s1 h1 => ?_⟩
      and_intros
      refine ⟨_, _, .l h1, rfl, ?_⟩
      and_intros
      rw [tx_len, tx_cps, show (6 : Int) = ((6 : Nat) : Int) from rfl, cutN_take]
      have l6 : (w.take 6).length = min 6 w.length := List.length_take
      refine ⟨Nat.le_of_lt (small_line (by omega)), Nat.le_of_lt (small_line (by decide)), fun p H2 hp s2 h2 => k p H2 (by cases e : H p with | none => rfl | some o => rw [s1 _ _ e] at hp; cases hp) (s1.trans s2) ⟨[.inr ("part" : Str), .inr (tx (w.take 6))], h2, isEnt_part (areLet_of (by omega) (by omega) fun c hc => w3 c (List.mem_of_mem_take hc)), by simp, by simp, fun z hz => ?_⟩⟩
      rcases List.mem_cons.mp hz with rfl | hz
      · exact ⟨[112, 97, 114, 116], rfl, by decide⟩
      · rw [List.mem_singleton.mp hz]
        exact ⟨_, rfl, by omega⟩
    rw [decide_eq_false e4]
    bv_omega
    rw [hN]
    clear hN nn
    refine seq_go fun nn hN => ?_
    and_intros
    refine ⟨by decide, ?_⟩
    rw [hN]
    clear hN nn
    refine cut_seq (fun σ H' => H' = H ∧ ∃ j : Nat, 1 ≤ j ∧ j ≤ 6 ∧ σ = [some (.int m), some (.int tn), some (.int (j : Int))]) ?_ ?_
    · rintro σ H' ⟨rfl, j, hj1, hj6, rfl⟩
      and_intros
      refine ⟨rfl, ⟨by decide, by decide⟩, m / 6, j, rfl, by omega, hj6, fun q ws H1 hwl hw hq s1 h1 => ?_⟩
      obtain ⟨jl1, jl2⟩ := join_len (n := 6) (ws := ws) (by omega) fun w hx => (hw w hx).2.1
      have ejs : (ws.map fun w => V.str (tx w)) = (ws.map tx).map V.str := by rw [List.map_map]; rfl
      refine ⟨ws.map tx, .of (by rw [h1, ejs]), ?_, ?_⟩
      · rw [List.map_map, List.length_map]
        have : (ws.map ((fun z : Str => z.length) ∘ tx)).sum ≤ (ws.map fun w => w.length + 1).sum := by
          have e : ws.map ((fun z : Str => z.length) ∘ tx) = ws.map fun w => w.length := List.map_congr_left fun w _ => tx_len w
          rw [e]
          clear e jl1 jl2 ejs h1 hw hwl
          induction ws with
          | nil => simp
          | cons w r ih => simp only [List.map_cons, List.sum_cons]; omega
        have e1 : (Str.ofString " ").length = 1 := rfl
        rw [e1]
        omega
      · rw [show (Str.ofString " ") = tx [32] from rfl, txjoin_tx]
        refine ⟨Nat.le_of_lt (small_line (by decide)), fun p H2 hp s2 h2 => k p H2 (by cases e : H' p with | none => rfl | some o => rw [s1 _ _ e] at hp; cases hp) (s1.trans s2) ⟨[.inr ("phrase" : Str), .inr (tx (Mk.joinL 32 ws))], h2, isEnt_phrase (areWds_of (by omega) (by omega) hw), by simp, by simp, fun z hz => ?_⟩⟩
        rcases List.mem_cons.mp hz with rfl | hz
        · exact ⟨[112, 104, 114, 97, 115, 101], rfl, by decide⟩
        · rw [List.mem_singleton.mp hz]
          exact ⟨_, rfl, by omega⟩
    · intro U hU
      and_intros
      by_cases e1 : 1 < tn
      · rw [if_pos (decide_eq_true e1)]
        obtain ⟨j, hj⟩ := Int.eq_ofNat_of_zero_le (show 0 ≤ 1 + m % 2 by omega)
        refine ⟨by decide, hU _ _ ⟨rfl, j, by omega, by omega, by rw [hj]⟩⟩
      · rw [if_neg (by simpa using e1)]
        obtain ⟨j, hj⟩ := Int.eq_ofNat_of_zero_le (show 0 ≤ 1 + m % 6 by omega)
        exact hU _ _ ⟨rfl, j, by omega, by omega, by rw [hj]⟩
theorem mix11_nn (c : Int) : 0 ≤ mix11 c := by
  unfold mix11
  have h1 := Int.emod_nonneg (c * 69621) (show (2147483629 : Int) ≠ 0 by decide)
  have h2 := Int.emod_nonneg c (show (10 ^ 60 : Int) ≠ 0 by decide)
  have h3 : 0 ≤ 2147483629 * (c % 10 ^ 60) := Int.mul_nonneg (by decide) h2
  omega
theorem ent_items {H : Hp} {p : Addr} (h : EntAt H p) : ∀ q xs, V.ref p = .ref q → H q = some (.tup xs) → xs.length ≤ 1000 ∧ ∀ y ∈ xs, (∃ t, tagV H y = some t) ∧ ∀ z, y = .str z → z.length ≤ 10000 := by
  obtain ⟨ks, e1, e2, e3, e4, e5⟩ := h
  intro q xs e h
  cases e
  rw [e1] at h
  cases h
  refine ⟨by rw [List.length_map]; omega, fun y hy => ?_⟩
  obtain ⟨kk, hk, rfl⟩ := List.mem_map.mp hy
  obtain ⟨l, rfl, hl⟩ := e5 kk hk
  refine flat_tag (decide_eq_true ?_)
  rw [tx_len]; omega
theorem EntAt.same {H H' : Hp} {p : Addr} (s : Same H H') (h : EntAt H p) : EntAt H' p := by
  obtain ⟨ks, e1, e2⟩ := h
  exact ⟨ks, s _ _ e1, e2⟩
theorem l20 : (Str.ofString "abcdefghijklmnopqrst").cps.toList.length = 20 ∧ ∀ c ∈ (Str.ofString "abcdefghijklmnopqrst").cps.toList, 97 ≤ c ∧ c < 123 := by decide
theorem l20b : (Str.ofString "uvwxyzuvwxyzuvwxyzuv").cps.toList.length = 20 ∧ ∀ c ∈ (Str.ofString "uvwxyzuvwxyzuvwxyzuv").cps.toList, 97 ≤ c ∧ c < 123 := by decide
theorem ent_tag {H : Hp} {p : Addr} (h : EntAt H p) : tagV H (.ref p) = some Tg.tup := by
  obtain ⟨ks, e1, _⟩ := h
  show tagO (H p) = _
  rw [e1]; rfl
theorem ent_is {H : Hp} {p : Addr} (h : EntAt H p) : isEntV H (.ref p) = true := by
  obtain ⟨ks, e1, e2, _⟩ := h
  show (match H p with | some (.tup xs) => isEntL xs | _ => false) = true
  rw [e1]; exact e2
theorem bad_is {H : Hp} {v : V} (h : Bad H v) : (∃ t, tagV H v = some t) ∧ (∀ p xs, v = .ref p → H p = some (.tup xs) → xs.length ≤ 1000 ∧ ∀ y ∈ xs, (∃ t, tagV H y = some t) ∧ ∀ z, y = .str z → z.length ≤ 10000) ∧ isEntV H v = false := by
  rcases h with ⟨a, xs, rfl, h1, h2, h3, h4⟩ | ⟨t, h1, h2⟩
  · refine ⟨⟨Tg.tup, by show tagO (H a) = _; rw [h1]; rfl⟩, fun p ys e e2 => ?_, ?_⟩
    · cases e
      rw [h1] at e2
      cases e2
      exact ⟨h2, h3⟩
    · show (match H a with | some (.tup xs) => isEntL xs | _ => false) = false
      rw [h1]; exact h4
  · have hnt : ∀ p xs, v = .ref p → H p ≠ some (.tup xs) := fun p xs e e2 => by
      subst e
      have h1 : tagO (H p) = some t := h1
      rw [e2] at h1
      cases h1
      exact h2 rfl
    refine ⟨⟨t, h1⟩, fun p xs e e2 => absurd e2 (hnt p xs e), ?_⟩
    cases v with
    | ref p =>
      show (match H p with | some (.tup xs) => isEntL xs | _ => false) = false
      split
      · rename_i xs hp; exact absurd hp (hnt p xs rfl)
      · rfl
    | _ => rfl
/-- is_entry of a phrase that was just made -/
theorem ask_phrase {H : Hp} {p : Addr} {l : List Nat} {Q : VK} {E : XK} (hp : H p = some (.tup [.str ("phrase" : Str), .str (tx l)])) (hl : l.length ≤ 10000) (k : ∀ H', Same H H' → Q (.bl (areWds 6 l)) H') : sp_is_entry [.ref p] H Q E := by
  refine ⟨.ref p, Tg.tup, rfl, by show tagO (H p) = _; rw [hp]; rfl, fun q xs e h => ?_, fun H' s => ?_⟩
  · cases e
    rw [hp] at h
    cases h
    refine ⟨by simp, fun y hy => ?_⟩
    rcases List.mem_cons.mp hy with rfl | hy
    · exact flat_tag (by decide)
    · rw [List.mem_singleton.mp hy]
      refine flat_tag (decide_eq_true ?_)
      rw [tx_len]; exact hl
  · have e : isEntV H (.ref p) = areWds 6 l := by
      show (match H p with | some (.tup xs) => isEntL xs | _ => false) = _
      rw [hp]
      show (if ("phrase" : Str) = ("phrase" : Str) then areWds 6 (tx l).cps.toList else if ("phrase" : Str) = ("part" : Str) then areLet 6 (tx l).cps.toList else false) = _
      rw [if_pos rfl, tx_cps]
    rw [e]
    exact k H' s
theorem rep_wds {n : Nat} {l : List Nat} (h1 : 1 ≤ l.length) (h2 : l.length ≤ 20) (h3 : ∀ c ∈ l, 97 ≤ c ∧ c < 123) (hn : 1 ≤ n) : areWds 6 (Mk.joinL 32 (List.replicate n l)) = decide (n ≤ 6) ∧ (n ≤ 7 → (Mk.joinL 32 (List.replicate n l)).length ≤ 147) := by
  have hm : ∀ w ∈ List.replicate n l, w = l := fun w hw => List.eq_of_mem_replicate hw
  constructor
  · unfold areWds
    rw [Mk.split_joinL _ (fun e => by have := congrArg List.length e; rw [List.length_replicate] at this; simp at this; omega) fun w hw hc => by have := h3 32 (by rw [← hm w hw]; exact hc); omega, List.length_replicate]
    have : (List.replicate n l).all (areLet 20) = true := List.all_eq_true.mpr fun w hw => by rw [hm w hw]; exact areLet_of h1 h2 h3
    rw [this, Bool.and_true]
  · intro h7
    have := (join_len (n := 7) (ws := List.replicate n l) (by rw [List.length_replicate]; exact h7) fun w hw => by rw [hm w hw]; exact h2).1
    omega
theorem long_bad {l : List Nat} (h1 : 20 < l.length) (h3 : ∀ c ∈ l, 97 ≤ c ∧ c < 123) : areWds 6 l = false := by
  unfold areWds
  rw [Mk.split_one l fun hc => by have := h3 32 hc; omega]
  have : areLet 20 l = false := by unfold areLet; rw [decide_eq_false (show ¬ l.length ≤ 20 by omega)]; simp
  rw [List.all_cons, this]; rfl
theorem flat_rep {α : Type} (x : α) : ∀ n : Nat, (List.replicate n [x]).flatten = List.replicate n x
  | 0 => rfl
  | n + 1 => by rw [List.replicate_succ, List.flatten_cons, flat_rep x n]; rfl
def sp_law (K : PySem.W.Frag) : Sp := fun vs H Q _ => ∃ (a : Addr) (ns : List Int), vs = [.ref a] ∧ SqL K H a (ns.map V.int) ∧ ns.length ≤ 63 ∧ ∀ H', Q (.bl true) H'
theorem sc_law : FnScope ["_law_script", "_law_k", "_law_number", "_law_entry_here", "_law_long"] ["_law_script"] (defScope s_law) := ⟨rfl, rfl, rfl, by decide +kernel, rfl, by decide +kernel, by decide +kernel⟩
theorem ok_law {f : Addr} {fd : FuncData} (F : Fun K "law" "law" s_law f fd) (T : Bl mg) (AF : AdF K mg Ad) (C_is_entry : Fnc P w K mg base (CX1 P w) 3 "is_entry" ["thing"] sp_is_entry) (C_law_spoiled : Fnc P w K mg base (CX1 P w) 1 "_law_spoiled" ["_law_entry_here", "_law_number"] sp_law_spoiled) (C_law_entry : Fnc P w K mg base (CX1 P w) 3 "_law_entry" ["_law_number"] sp_law_entry) (C_law_mixed : Fnc P w K mg base (CX1 P w) 1 "_law_mixed" ["_law_cell"] sp_law_mixed) (C_law_cell_at : Fnc P w K mg base (CX1 P w) 1 "_law_cell_at" ["_law_script", "_law_k"] (sp_law_cell_at K)) : FnOk P w K mg base (CX1 P w) 4 f fd ["_law_script"] (sp_law K) := by
  refine F.okX (k := 3) sc_law (fun vs H Q E h => ?_) (fun cdv A outer s H vs Q E hr h => ?_)
  · obtain ⟨a, ns, rfl, _⟩ := h
    rfl
  · obtain ⟨a, ns, rfl, hS, hlen, k⟩ := h
    have hu := hr.units0
    have hu1 := hu_of hr
    refine ⟨_, pss_cons (ps_for PassesOwn.leaving rfl (pi_range1G T.range (pa_c (pe_callBG (call_maxX rfl) T.max bt_max (pa_c (pe_int) (pa_c (pe_callBG (call_minX rfl) T.min bt_min (pa_c (pe_callBG (call_lenK (K := K) rfl) T.len bt_len (pa_c (pvL 0) (pa_nil))) (pa_c (pe_int) (pa_nil)))) (pa_nil)))) (pa_nil))) (pg_nameL (i := 1) sc_law.nd) (pss_cons (ps_setL (i := 2) sc_law.nd (pe_callG C_law_mixed pass_def (hr.mono (by decide)) (pa_c (pe_op op_addX (pe_op op_mulS (pe_int) (pe_callG C_law_cell_at pass_def (hr.mono (by decide)) (pa_c (pvL 0) (pa_c (pvL 1) (pa_nil))))) (pvL 1)) (pa_nil)))) (pss_cons (ps_setL (i := 3) sc_law.nd (pe_callG C_law_entry pass_def (hr.mono (by decide)) (pa_c (pvL 2) (pa_nil)))) (pss_cons (ps_if ((pw_or (pt_cmpR op_isnotX (pe_callG C_is_entry pass_def (hr.mono (by decide)) (pa_c (pvL 3) (pa_nil))) (pe_bl) (nomark _)) (pw_or1 (pt_cmpR op_isnotX (pe_callG C_is_entry pass_def (hr.mono (by decide)) (pa_c (pe_callG C_law_spoiled pass_def (hr.mono (by decide)) (pa_c (pvL 3) (pa_c (pe_op op_fdivX (pvL 2) (pe_int)) (pa_nil)))) (pa_nil))) (pe_bl) (nomark _)))).pt) (pss_one (ps_ret (pe_bl))) (pss_nil)) (pss_cons (ps_setL (i := 4) sc_law.nd (pe_slice (sl_YK (K := K) rfl) (pe_str) (po_none) (po_some (pe_op op_addX (pe_int) (pe_op op_modX (pvL 2) (pe_int)))))) (pss_cons (ps_if (pt_cmpR op_isnotX (pe_callG C_is_entry pass_def (hr.mono (by decide)) (pa_c (pe_tupX (pa_c (pe_str) (pa_c (pe_bmG (K := K) rfl PySem.F.plainAttrs_str PySem.F.slot_str_join PySem.F.type_str_join (mt_joinK (K := K) rfl) (pe_str) (pa_c (pe_op op_mulX (pe_lstX (pa_c (pvL 4) (pa_nil))) (pe_op op_addX (pe_int) (pe_op op_modX (pvL 2) (pe_int)))) (pa_nil))) (pa_nil)))) (pa_nil))) (pe_bl) (nomark _)) (pss_one (ps_ret (pe_bl))) (pss_nil)) (pss_cons (ps_if (pt_cmpR op_isnotX (pe_callG C_is_entry pass_def (hr.mono (by decide)) (pa_c (pe_tupX (pa_c (pe_str) (pa_c (pe_bmG (K := K) rfl PySem.F.plainAttrs_str PySem.F.slot_str_join PySem.F.type_str_join (mt_joinK (K := K) rfl) (pe_str) (pa_c (pe_op op_mulX (pe_lstX (pa_c (pvL 4) (pa_nil))) (pe_int)) (pa_nil))) (pa_nil)))) (pa_nil))) (pe_bl) (nomark _)) (pss_one (ps_ret (pe_bl))) (pss_nil)) (pss_one (ps_if (pt_cmpR op_isnotX (pe_callG C_is_entry pass_def (hr.mono (by decide)) (pa_c (pe_tupX (pa_c (pe_str) (pa_c (pe_op op_addX (pvL 4) (pe_str)) (pa_nil)))) (pa_nil))) (pe_bl) (nomark _)) (pss_one (ps_ret (pe_bl))) (pss_nil)))))))))) (pss_one (ps_ret (pe_cmpR op_isX (pe_callG C_is_entry pass_def (hr.mono (by decide)) (pa_c (pe_tupX (pa_c (pe_str) (pa_nil))) (pa_nil))) (pe_bl) (nomark _)))), ?_⟩
    have big : ∀ {u : Nat}, u ≤ 1000 → u ≤ sizeLine := fun hu => Nat.le_of_lt (small_line (by omega))
    refine seq_go fun nn hN => ?_
    and_intros
    refine ⟨_, .inl hS, ?_⟩
    rw [List.length_map]
    refine ⟨by omega, by omega, ?_⟩
    generalize hnn : (max 1 (min (ns.length : Int) 60)).toNat = n2
    refine for_rngO (n := n2) (fun i σ H' => (∃ o1 o2 o3 o4, σ = [some (.ref a), o1, o2, o3, o4]) ∧ Same H H') ?_ ?_ ?_
    · exact ⟨⟨_, _, _, _, rfl⟩, Same.refl _⟩
    · rintro i σ H1 hi ⟨⟨o1, o2, o3, o4, rfl⟩, t1⟩ N hNx
      clear hN
      and_intros
      refine seq_go fun nw2 hW => ?_
      and_intros
      refine ⟨a, ns, 0 + (i : Int), rfl, t1.seq hS, by omega, .inl (by decide), _, rfl, ?_⟩
      generalize hnum : mix11 (64 * ns.getD (0 + (i : Int)).toNat 0 + (0 + (i : Int))) = num
      have hn0 : 0 ≤ num := by rw [← hnum]; exact mix11_nn _
      rw [hW]
      clear hW nw2 hnum
      refine seq_go fun nw2 hW => ?_
      and_intros
      refine ⟨num, rfl, hn0, fun p H2 hp s2 hE => ?_⟩
      rw [hW]
      clear hW nw2
      refine seq_go fun nw2 hW => ?_
      and_intros
      refine ⟨.ref p, Tg.tup, rfl, ent_tag hE, ent_items hE, fun H3 s3 => ?_⟩
      rw [ent_is hE]
      and_intros
      refine ⟨⟨by decide, by decide⟩, p, num / 9, rfl, hE.same s3, by omega, fun v H4 s4 hB => ?_⟩
      obtain ⟨⟨t, ht⟩, hc, hf⟩ := bad_is hB
      refine ⟨v, t, rfl, ht, hc, fun H5 s5 => ?_⟩
      rw [hf]
      and_intros
      rw [if_neg (by decide)]
      have t5 : Same H H5 := t1.trans (s2.trans (s3.trans (s4.trans s5)))
      clear hf hc ht hB s4 s5 s3 s2 hE hp t1
      rw [hW]
      clear hW nw2
      refine seq_go fun nw2 hW => ?_
      and_intros
      obtain ⟨j, hj⟩ := Int.eq_ofNat_of_zero_le (show 0 ≤ 1 + num % 20 by omega)
      have hj1 : 1 ≤ j ∧ j ≤ 20 := by omega
      rw [hj, cutN_take]
      refine ⟨by decide, big (by decide), ?_⟩
      obtain ⟨la, lb⟩ := l20
      have hl1 : ((Str.ofString "abcdefghijklmnopqrst").cps.toList.take j).length = j := by rw [List.length_take, la]; omega
      have hl2 : ∀ c ∈ (Str.ofString "abcdefghijklmnopqrst").cps.toList.take j, 97 ≤ c ∧ c < 123 := fun c hc => lb c (List.mem_of_mem_take hc)
      generalize (Str.ofString "abcdefghijklmnopqrst").cps.toList.take j = l at hl1 hl2
      rw [hW]
      clear hW nw2 hj la lb
      have hjs : ∀ u : Nat, u ≤ 7 → ((List.replicate u (tx l)).map (·.length)).sum + (List.replicate u (tx l)).length * (Str.ofString " ").length ≤ 16777216 := fun u hu => by
        rw [List.map_replicate, List.sum_replicate_nat, List.length_replicate, tx_len, hl1, show (Str.ofString " ").length = 1 from rfl]
        have : u * j ≤ 7 * 20 := Nat.mul_le_mul hu hj1.2
        omega
      have hjt : ∀ u : Nat, Txt.join (Str.ofString " ") (List.replicate u (tx l)) = tx (Mk.joinL 32 (List.replicate u l)) := fun u => by
        rw [show (Str.ofString " ") = tx [32] from rfl, ← txjoin_tx, List.map_replicate]
      have hjv : ∀ u : Nat, (List.replicate u [V.str (tx l)]).flatten = (List.replicate u (tx l)).map V.str := fun u => by rw [flat_rep, List.map_replicate]
      refine seq_go fun nw2 hW => ?_
      and_intros
      obtain ⟨u, hu6⟩ := Int.eq_ofNat_of_zero_le (show 0 ≤ 1 + num % 6 by omega)
      have hu1' : 1 ≤ u ∧ u ≤ 6 := by omega
      rw [hu6, Int.toNat_natCast]
      refine ⟨rfl, big (by decide), fun p1 G1 z1 s1 h1 => ⟨by decide, _, h1, by omega, by omega, by show 1 * u ≤ sizeLine; exact big (by omega), fun p2 G2 z2 s2 h2 => ⟨_, .of (by rw [h2, hjv]), hjs u (by omega), big (by decide), fun p3 G3 z3 s3 h3 => ?_⟩⟩⟩
      rw [hjt] at h3
      obtain ⟨ra, rb⟩ := rep_wds (n := u) (l := l) (by omega) (by omega) hl2 hu1'.1
      refine ask_phrase h3 (by have := rb (by omega); omega) fun G4 s4 => ?_
      rw [ra, decide_eq_true hu1'.2]
      and_intros
      rw [if_neg (by decide)]
      have t6 : Same H G4 := t5.trans (s1.trans (s2.trans (s3.trans s4)))
      clear t5 s1 s2 s3 s4 h1 h2 h3 z1 z2 z3 ra rb hu6
      rw [hW]
      clear hW nw2
      refine seq_go fun nw2 hW => ?_
      and_intros
      refine ⟨rfl, big (by decide), fun q1 F1 z1 s1 h1 => ⟨_, h1, by decide, by decide, (show (7 : Nat) ≤ sizeLine from big (by decide)), fun q2 F2 z2 s2 h2 => ⟨List.replicate 7 (tx l), .of (by rw [h2]; exact congrArg (fun x => some (HO.lst x)) (hjv 7)), hjs 7 (by omega), big (by decide), fun q3 F3 z3 s3 h3 => ?_⟩⟩⟩
      rw [hjt] at h3
      obtain ⟨ra, rb⟩ := rep_wds (n := 7) (l := l) (by omega) (by omega) hl2 (by omega)
      refine ask_phrase h3 (by have := rb (by omega); omega) fun F4 s4 => ?_
      rw [ra]
      and_intros
      rw [if_neg (by decide)]
      have t7 : Same H F4 := t6.trans (s1.trans (s2.trans (s3.trans s4)))
      clear t6 s1 s2 s3 s4 h1 h2 h3 z1 z2 z3 ra rb
      rw [hW]
      clear hW nw2
      and_intros
      obtain ⟨la, lb⟩ := l20b
      have el : tx l ++ Str.ofString "uvwxyzuvwxyzuvwxyzuv" = tx (l ++ (Str.ofString "uvwxyzuvwxyzuvwxyzuv").cps.toList) := by rw [← tx_app, tx_of]
      rw [el, tx_len, hl1]
      have hln : (l ++ (Str.ofString "uvwxyzuvwxyzuvwxyzuv").cps.toList).length = j + 20 := by rw [List.length_append, hl1, la]
      refine ⟨big (show j + 20 ≤ 1000 by omega), big (by decide), fun q1 F5 z1 s1 h1 => ?_⟩
      refine ask_phrase h1 (by omega) fun F6 s6 => ?_
      have hbd : areWds 6 (l ++ (Str.ofString "uvwxyzuvwxyzuvwxyzuv").cps.toList) = false := long_bad (by omega) fun c hc => by
        rcases List.mem_append.mp hc with hc | hc
        · exact hl2 c hc
        · exact lb c hc
      rw [hbd]
      and_intros
      rw [if_neg (by decide)]
      exact hNx _ _ ⟨⟨_, _, _, _, rfl⟩, t7.trans (s1.trans s6)⟩
    · rintro σ H1 ⟨⟨o1, o2, o3, o4, rfl⟩, t1⟩
      show nn _ _ _
      rw [hN]
      and_intros
      refine ⟨big (by decide), fun p H2 hp s2 h2 => ?_⟩
      refine ⟨.ref p, Tg.tup, rfl, by show tagO (H2 p) = _; rw [h2]; rfl, fun q xs e h => ?_, fun H3 s3 => ?_⟩
      · cases e
        rw [h2] at h
        cases h
        exact ⟨by simp, fun y hy => by rw [List.mem_singleton.mp hy]; exact flat_tag (by decide)⟩
      · have e : isEntV H2 (.ref p) = true := by
          show (match H2 p with | some (.tup xs) => isEntL xs | _ => false) = true
          rw [h2]; rfl
        rw [e]
        and_intros
        exact k _
end
theorem all_mk {l : PySem.W.OpenLaw} {w : World} {K : PySem.W.Frag} {h : Heap} {mg : Str → Option Value} {fa : Addr}  {f0 f1 f2 f3 f4 f5 f6 f7 f8 f9 : Addr} (X : K.In h) (G : h.Ns mainGlobals mg) (hfa : mg "law" = some (.ref fa))
    {od0 an0 od1 an1 od2 an2 od3 an3 od4 an4 od5 an5 od6 an6 od7 an7 od8 an8 od9 an9 : Option Addr} {sl0 sl1 sl2 sl3 sl4 sl5 sl6 sl7 sl8 sl9 : Array (Option Value)} {oc0 kV0 dc0 pm0 cd0 ct0 oc1 kV1 dc1 pm1 cd1 ct1 oc2 kV2 dc2 pm2 cd2 ct2 oc3 kV3 dc3 pm3 cd3 ct3 oc4 kV4 dc4 pm4 cd4 ct4 oc5 kV5 dc5 pm5 cd5 ct5 oc6 kV6 dc6 pm6 cd6 ct6 oc7 kV7 dc7 pm7 cd7 ct7 oc8 kV8 dc8 pm8 cd8 ct8 oc9 kV9 dc9 pm9 cd9 ct9 : Value}
    (a0 : PySem.W.nsIn K mainGlobals "are_letters" = some (some (.ref f0)))
    (l0 : K.lookup f0 = some ⟨oc0, od0, .func (PySem.W.fnOf "are_letters" "are_letters" (defArgs s_are_letters) (defBody s_are_letters) (defScope s_are_letters) .none kV0 dc0 pm0 an0 cd0 ct0), sl0⟩)
    (c0 : PySem.W.codeIn K cd0 "are_letters" = true)
    (k0 : PySem.W.keepIn K (.ref f0) = true)
    (a1 : PySem.W.nsIn K mainGlobals "are_words" = some (some (.ref f1)))
    (l1 : K.lookup f1 = some ⟨oc1, od1, .func (PySem.W.fnOf "are_words" "are_words" (defArgs s_are_words) (defBody s_are_words) (defScope s_are_words) .none kV1 dc1 pm1 an1 cd1 ct1), sl1⟩)
    (c1 : PySem.W.codeIn K cd1 "are_words" = true)
    (k1 : PySem.W.keepIn K (.ref f1) = true)
    (a2 : PySem.W.nsIn K mainGlobals "is_entry" = some (some (.ref f2)))
    (l2 : K.lookup f2 = some ⟨oc2, od2, .func (PySem.W.fnOf "is_entry" "is_entry" (defArgs s_is_entry) (defBody s_is_entry) (defScope s_is_entry) .none kV2 dc2 pm2 an2 cd2 ct2), sl2⟩)
    (c2 : PySem.W.codeIn K cd2 "is_entry" = true)
    (k2 : PySem.W.keepIn K (.ref f2) = true)
    (a3 : PySem.W.nsIn K mainGlobals "_law_cell_at" = some (some (.ref f3)))
    (l3 : K.lookup f3 = some ⟨oc3, od3, .func (PySem.W.fnOf "_law_cell_at" "_law_cell_at" (defArgs s_law_cell_at) (defBody s_law_cell_at) (defScope s_law_cell_at) .none kV3 dc3 pm3 an3 cd3 ct3), sl3⟩)
    (c3 : PySem.W.codeIn K cd3 "_law_cell_at" = true)
    (k3 : PySem.W.keepIn K (.ref f3) = true)
    (a4 : PySem.W.nsIn K mainGlobals "_law_mixed" = some (some (.ref f4)))
    (l4 : K.lookup f4 = some ⟨oc4, od4, .func (PySem.W.fnOf "_law_mixed" "_law_mixed" (defArgs s_law_mixed) (defBody s_law_mixed) (defScope s_law_mixed) .none kV4 dc4 pm4 an4 cd4 ct4), sl4⟩)
    (c4 : PySem.W.codeIn K cd4 "_law_mixed" = true)
    (k4 : PySem.W.keepIn K (.ref f4) = true)
    (a5 : PySem.W.nsIn K mainGlobals "_law_word" = some (some (.ref f5)))
    (l5 : K.lookup f5 = some ⟨oc5, od5, .func (PySem.W.fnOf "_law_word" "_law_word" (defArgs s_law_word) (defBody s_law_word) (defScope s_law_word) .none kV5 dc5 pm5 an5 cd5 ct5), sl5⟩)
    (c5 : PySem.W.codeIn K cd5 "_law_word" = true)
    (k5 : PySem.W.keepIn K (.ref f5) = true)
    (a6 : PySem.W.nsIn K mainGlobals "_law_some_words" = some (some (.ref f6)))
    (l6 : K.lookup f6 = some ⟨oc6, od6, .func (PySem.W.fnOf "_law_some_words" "_law_some_words" (defArgs s_law_some_words) (defBody s_law_some_words) (defScope s_law_some_words) .none kV6 dc6 pm6 an6 cd6 ct6), sl6⟩)
    (c6 : PySem.W.codeIn K cd6 "_law_some_words" = true)
    (k6 : PySem.W.keepIn K (.ref f6) = true)
    (a7 : PySem.W.nsIn K mainGlobals "_law_entry" = some (some (.ref f7)))
    (l7 : K.lookup f7 = some ⟨oc7, od7, .func (PySem.W.fnOf "_law_entry" "_law_entry" (defArgs s_law_entry) (defBody s_law_entry) (defScope s_law_entry) .none kV7 dc7 pm7 an7 cd7 ct7), sl7⟩)
    (c7 : PySem.W.codeIn K cd7 "_law_entry" = true)
    (k7 : PySem.W.keepIn K (.ref f7) = true)
    (a8 : PySem.W.nsIn K mainGlobals "_law_spoiled" = some (some (.ref f8)))
    (l8 : K.lookup f8 = some ⟨oc8, od8, .func (PySem.W.fnOf "_law_spoiled" "_law_spoiled" (defArgs s_law_spoiled) (defBody s_law_spoiled) (defScope s_law_spoiled) .none kV8 dc8 pm8 an8 cd8 ct8), sl8⟩)
    (c8 : PySem.W.codeIn K cd8 "_law_spoiled" = true)
    (k8 : PySem.W.keepIn K (.ref f8) = true)
    (a9 : PySem.W.nsIn K mainGlobals "law" = some (some (.ref f9)))
    (l9 : K.lookup f9 = some ⟨oc9, od9, .func (PySem.W.fnOf "law" "law" (defArgs s_law) (defBody s_law) (defScope s_law) .none kV9 dc9 pm9 an9 cd9 ct9), sl9⟩)
    (c9 : PySem.W.codeIn K cd9 "law" = true)
    (k9 : PySem.W.keepIn K (.ref f9) = true)
    {u_SMALL_LETTERS : Value}
    (v_SMALL_LETTERS : PySem.W.nsIn K mainGlobals "SMALL_LETTERS" = some (some u_SMALL_LETTERS))
    (r_SMALL_LETTERS : RelV (.str "abcdefghijklmnopqrstuvwxyz") u_SMALL_LETTERS)
    {u_LONGEST_WORD : Value}
    (v_LONGEST_WORD : PySem.W.nsIn K mainGlobals "LONGEST_WORD" = some (some u_LONGEST_WORD))
    (r_LONGEST_WORD : RelV (.int 20) u_LONGEST_WORD)
    {u_MOST_PHRASE_WORDS : Value}
    (v_MOST_PHRASE_WORDS : PySem.W.nsIn K mainGlobals "MOST_PHRASE_WORDS" = some (some u_MOST_PHRASE_WORDS))
    (r_MOST_PHRASE_WORDS : RelV (.int 6) u_MOST_PHRASE_WORDS)
    {u_MOST_PART_LETTERS : Value}
    (v_MOST_PART_LETTERS : PySem.W.nsIn K mainGlobals "MOST_PART_LETTERS" = some (some u_MOST_PART_LETTERS))
    (r_MOST_PART_LETTERS : RelV (.int 6) u_MOST_PART_LETTERS)
    (z_all : PySem.W.nsIn K mainGlobals "all" = some none)
    (z_len : PySem.W.nsIn K mainGlobals "len" = some none)
    (z_isinstance : PySem.W.nsIn K mainGlobals "isinstance" = some none)
    (z_str : PySem.W.nsIn K mainGlobals "str" = some none)
    (z_tuple : PySem.W.nsIn K mainGlobals "tuple" = some none)
    (z_range : PySem.W.nsIn K mainGlobals "range" = some none)
    (z_list : PySem.W.nsIn K mainGlobals "list" = some none)
    (z_max : PySem.W.nsIn K mainGlobals "max" = some none)
    (z_min : PySem.W.nsIn K mainGlobals "min" = some none)
    : ∃ fd : FuncData, (∀ (s : Shared) (v : Value), BindsTo s fd ⟨[v], []⟩ [("_law_script", v)]) ∧ ∀ base : Heap, K.In base → base.Ns mainGlobals mg → FnOk l.prog w K mg base (CX1 l.prog w) 4 fa fd ["_law_script"] (sp_law K) := by
  have e := hfa.symm.trans (PySem.W.mg_of X G a9)
  cases e
  have T : Bl mg := ⟨PySem.W.mg_none_of X G z_all, PySem.W.mg_none_of X G z_len, PySem.W.mg_none_of X G z_isinstance, PySem.W.mg_none_of X G z_str, PySem.W.mg_none_of X G z_tuple, PySem.W.mg_none_of X G z_range, PySem.W.mg_none_of X G z_list, PySem.W.mg_none_of X G z_max, PySem.W.mg_none_of X G z_min⟩
  have AF : AdF K mg ⟨()⟩ := ⟨⟨_, PySem.W.mg_of X G v_SMALL_LETTERS, r_SMALL_LETTERS⟩, ⟨_, PySem.W.mg_of X G v_LONGEST_WORD, r_LONGEST_WORD⟩, ⟨_, PySem.W.mg_of X G v_MOST_PHRASE_WORDS, r_MOST_PHRASE_WORDS⟩, ⟨_, PySem.W.mg_of X G v_MOST_PART_LETTERS, r_MOST_PART_LETTERS⟩⟩
  have F0 := fun_mk (st := s_are_letters) l0 c0 k0
  have F1 := fun_mk (st := s_are_words) l1 c1 k1
  have F2 := fun_mk (st := s_is_entry) l2 c2 k2
  have F3 := fun_mk (st := s_law_cell_at) l3 c3 k3
  have F4 := fun_mk (st := s_law_mixed) l4 c4 k4
  have F5 := fun_mk (st := s_law_word) l5 c5 k5
  have F6 := fun_mk (st := s_law_some_words) l6 c6 k6
  have F7 := fun_mk (st := s_law_entry) l7 c7 k7
  have F8 := fun_mk (st := s_law_spoiled) l8 c8 k8
  have F9 := fun_mk (st := s_law) l9 c9 k9
  refine ⟨PySem.W.fnOf "law" "law" (defArgs s_law) (defBody s_law) (defScope s_law) .none kV9 dc9 pm9 an9 cd9 ct9, fun s v => .of_eq rfl, fun base _ _ => ?_⟩
  have b0 := F0.binds (ps := ["thing", "most"]) fun _ _ _ _ _ _ us hl => match us, hl with | [_, _], _ => rfl
  have C_are_letters : Fnc l.prog w K mg base (CX1 l.prog w) 1 "are_letters" ["thing", "most"] sp_are_letters := ⟨f0, _, ok_are_letters F0 T AF , PySem.W.mg_of X G a0, k0, b0⟩
  have b3 := F3.binds (ps := ["_law_script", "_law_k"]) fun _ _ _ _ _ _ us hl => match us, hl with | [_, _], _ => rfl
  have C_law_cell_at : Fnc l.prog w K mg base (CX1 l.prog w) 1 "_law_cell_at" ["_law_script", "_law_k"] (sp_law_cell_at K) := ⟨f3, _, ok_law_cell_at F3 T AF , PySem.W.mg_of X G a3, k3, b3⟩
  have b4 := F4.binds (ps := ["_law_cell"]) fun _ _ _ _ _ _ us hl => match us, hl with | [_], _ => rfl
  have C_law_mixed : Fnc l.prog w K mg base (CX1 l.prog w) 1 "_law_mixed" ["_law_cell"] sp_law_mixed := ⟨f4, _, ok_law_mixed F4 T AF , PySem.W.mg_of X G a4, k4, b4⟩
  have b5 := F5.binds (ps := ["_law_number"]) fun _ _ _ _ _ _ us hl => match us, hl with | [_], _ => rfl
  have C_law_word : Fnc l.prog w K mg base (CX1 l.prog w) 1 "_law_word" ["_law_number"] sp_law_word := ⟨f5, _, ok_law_word F5 T AF , PySem.W.mg_of X G a5, k5, b5⟩
  have b8 := F8.binds (ps := ["_law_entry_here", "_law_number"]) fun _ _ _ _ _ _ us hl => match us, hl with | [_, _], _ => rfl
  have C_law_spoiled : Fnc l.prog w K mg base (CX1 l.prog w) 1 "_law_spoiled" ["_law_entry_here", "_law_number"] sp_law_spoiled := ⟨f8, _, ok_law_spoiled F8 T AF , PySem.W.mg_of X G a8, k8, b8⟩
  have b1 := F1.binds (ps := ["thing", "most"]) fun _ _ _ _ _ _ us hl => match us, hl with | [_, _], _ => rfl
  have C_are_words : Fnc l.prog w K mg base (CX1 l.prog w) 2 "are_words" ["thing", "most"] sp_are_words := ⟨f1, _, ok_are_words F1 T AF C_are_letters, PySem.W.mg_of X G a1, k1, b1⟩
  have b6 := F6.binds (ps := ["_law_number", "_law_many"]) fun _ _ _ _ _ _ us hl => match us, hl with | [_, _], _ => rfl
  have C_law_some_words : Fnc l.prog w K mg base (CX1 l.prog w) 2 "_law_some_words" ["_law_number", "_law_many"] sp_law_some_words := ⟨f6, _, ok_law_some_words F6 T AF C_law_word, PySem.W.mg_of X G a6, k6, b6⟩
  have b2 := F2.binds (ps := ["thing"]) fun _ _ _ _ _ _ us hl => match us, hl with | [_], _ => rfl
  have C_is_entry : Fnc l.prog w K mg base (CX1 l.prog w) 3 "is_entry" ["thing"] sp_is_entry := ⟨f2, _, ok_is_entry F2 T AF C_are_letters C_are_words, PySem.W.mg_of X G a2, k2, b2⟩
  have b7 := F7.binds (ps := ["_law_number"]) fun _ _ _ _ _ _ us hl => match us, hl with | [_], _ => rfl
  have C_law_entry : Fnc l.prog w K mg base (CX1 l.prog w) 3 "_law_entry" ["_law_number"] sp_law_entry := ⟨f7, _, ok_law_entry F7 T AF C_law_some_words C_law_word, PySem.W.mg_of X G a7, k7, b7⟩
  exact ok_law F9 T AF C_is_entry C_law_spoiled C_law_entry C_law_mixed C_law_cell_at
end Kb
open PySem PySem.W PyProof.Rows
set_option maxRecDepth 100000 in
set_option maxHeartbeats 0 in
theorem PySem.Challenge.cw_cablehouse_k11_entries_holds : PySem.Challenge.rw_cablehouse_k11_entries.Holds := by
  w_on; o_law; k_head; (case hw => w_witness2)
  k_fill
  refine L2.walk_of (l := PySem.Challenge.rw_cablehouse_k11_entries) (n := 63) (k := 4) (x := "_law_script") (CX := fun w => L2.CX1 PySem.Challenge.rw_cablehouse_k11_entries.prog w) (sp := fun w => Kb.sp_law _) rfl (by decide) rfl ⟨rfl, by decide, by decide⟩ (fun w h Y => PySem.W.kIn_of Y) ?F (fun _ _ a ns hl _ hS => ⟨a, ns, rfl, hS, hl, fun _ => rfl⟩) fun _ _ _ _ _ z => L2.cx1_false z
  case F =>
    intro w mg fa h KX G hmg
    refine' Kb.all_mk KX G hmg ?a0 ?l0 ?c0 ?k0 ?a1 ?l1 ?c1 ?k1 ?a2 ?l2 ?c2 ?k2 ?a3 ?l3 ?c3 ?k3 ?a4 ?l4 ?c4 ?k4 ?a5 ?l5 ?c5 ?k5 ?a6 ?l6 ?c6 ?k6 ?a7 ?l7 ?c7 ?k7 ?a8 ?l8 ?c8 ?k8 ?a9 ?l9 ?c9 ?k9 ?v_SMALL_LETTERS ?r_SMALL_LETTERS ?v_LONGEST_WORD ?r_LONGEST_WORD ?v_MOST_PHRASE_WORDS ?r_MOST_PHRASE_WORDS ?v_MOST_PART_LETTERS ?r_MOST_PART_LETTERS ?z_all ?z_len ?z_isinstance ?z_str ?z_tuple ?z_range ?z_list ?z_max ?z_min
    (case a0 => k_is)
    (case l0 => k_is)
    (case c0 => k_is)
    (case k0 => k_is)
    (case a1 => k_is)
    (case l1 => k_is)
    (case c1 => k_is)
    (case k1 => k_is)
    (case a2 => k_is)
    (case l2 => k_is)
    (case c2 => k_is)
    (case k2 => k_is)
    (case a3 => k_is)
    (case l3 => k_is)
    (case c3 => k_is)
    (case k3 => k_is)
    (case a4 => k_is)
    (case l4 => k_is)
    (case c4 => k_is)
    (case k4 => k_is)
    (case a5 => k_is)
    (case l5 => k_is)
    (case c5 => k_is)
    (case k5 => k_is)
    (case a6 => k_is)
    (case l6 => k_is)
    (case c6 => k_is)
    (case k6 => k_is)
    (case a7 => k_is)
    (case l7 => k_is)
    (case c7 => k_is)
    (case k7 => k_is)
    (case a8 => k_is)
    (case l8 => k_is)
    (case c8 => k_is)
    (case k8 => k_is)
    (case a9 => k_is)
    (case l9 => k_is)
    (case c9 => k_is)
    (case k9 => k_is)
    (case v_SMALL_LETTERS => k_is)
    (case r_SMALL_LETTERS => exact ⟨_, rfl⟩)
    (case v_LONGEST_WORD => k_is)
    (case r_LONGEST_WORD => exact ⟨_, rfl⟩)
    (case v_MOST_PHRASE_WORDS => k_is)
    (case r_MOST_PHRASE_WORDS => exact ⟨_, rfl⟩)
    (case v_MOST_PART_LETTERS => k_is)
    (case r_MOST_PART_LETTERS => exact ⟨_, rfl⟩)
    (case z_all => k_is)
    (case z_len => k_is)
    (case z_isinstance => k_is)
    (case z_str => k_is)
    (case z_tuple => k_is)
    (case z_range => k_is)
    (case z_list => k_is)
    (case z_max => k_is)
    (case z_min => k_is)
