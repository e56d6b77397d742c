import PyProof.Rows.All
import Wide.All
import OpenK.AllK
import Wide.FinOn
import Lean
import PyProof.EqAt
import PyProof.EqKinds
import PyProof.TupleCall
import KE.KTryMore
import KE.KRevIter
import PySem.Challenge.RW_cellpatches_k02_turns
set_option Elab.async false
set_option linter.all false
set_option maxRecDepth 100000
/-! THE HAND LAYER, for ints, bools, texts, own classes, LISTS and tuples (index, slices, in, append, pop ..), calls, loops. Paste it whole ahead of your own text; what your proof does not reach may be deleted. -/
namespace L2
open PySem PySem.Spec PyProof.Rows

/-- a key: an int or a str -/
abbrev Key := Sum Int Str
def keyIs : Key → Value → Bool
  | .inl k, v => Value.isInt k v
  | .inr x, v => Value.isStrOf x v
def keyH (w : World) : Key → Int
  | .inl k => hashInt k
  | .inr x => hashStr w x
theorem keyIs_shape : ∀ {k : Key} {v : Value}, keyIs k v = true → (∃ i t, k = Sum.inl i ∧ v = Value.int i t) ∨ (∃ x t, k = Sum.inr x ∧ v = Value.str x t)
  | .inl i, v, h => by
    obtain ⟨t, e⟩ := Value.isInt_shape (k := i) (v := v) h
    exact .inl ⟨i, t, rfl, e⟩
  | .inr x, v, h => by
    obtain ⟨t, e⟩ := Value.isStrOf_shape (x := x) (v := v) h
    exact .inr ⟨x, t, rfl, e⟩
theorem key_ll (a b : Int) : decide ((Sum.inl a : Key) = Sum.inl b) = (a == b) := by
  by_cases e : a = b
  · subst e; simp
  · have h : ¬ (Sum.inl a : Key) = Sum.inl b := fun q => e (Sum.inl.inj q)
    rw [decide_eq_false h]
    exact (beq_eq_false_iff_ne.mpr e).symm
theorem key_rr (a b : Str) : decide ((Sum.inr a : Key) = Sum.inr b) = decide (a = b) := by
  by_cases e : a = b
  · subst e; simp
  · have h : ¬ (Sum.inr a : Key) = Sum.inr b := fun q => e (Sum.inr.inj q)
    rw [decide_eq_false h, decide_eq_false e]
theorem key_lr (a : Int) (b : Str) : decide ((Sum.inl a : Key) = Sum.inr b) = false := decide_eq_false (fun q => nomatch q)
theorem key_rl (a : Str) (b : Int) : decide ((Sum.inr a : Key) = Sum.inl b) = false := decide_eq_false (fun q => nomatch q)

def mixKind (prog : Program) (w : World) : PySem.KeyKind prog w Key where
  is := keyIs
  hash := keyH w
  inj := fun v a b ha hb => by
    rcases keyIs_shape ha with ⟨i, t, rfl, rfl⟩ | ⟨x, t, rfl, rfl⟩
    · rcases keyIs_shape hb with ⟨j, u, rfl, e⟩ | ⟨y, u, rfl, e⟩
      · injection e with e1 _; rw [e1]
      · exact nomatch e
    · rcases keyIs_shape hb with ⟨j, u, rfl, e⟩ | ⟨y, u, rfl, e⟩
      · exact nomatch e
      · injection e with e1 _; rw [e1]
  byValue := fun k v h => by
    rcases keyIs_shape h with ⟨i, t, rfl, rfl⟩ | ⟨x, t, rfl, rfl⟩ <;> rfl
  pyHash := fun hv h => by
    rcases keyIs_shape hv with ⟨i, t, rfl, rfl⟩ | ⟨x, t, rfl, rfl⟩
    · exact wpAny_pyHash_int h
    · exact wpAny_pyHash_str h
  eqBool := fun hu hv h => by
    rcases keyIs_shape hu with ⟨i, t, rfl, rfl⟩ | ⟨x, t, rfl, rfl⟩
    · rcases keyIs_shape hv with ⟨j, u, rfl, rfl⟩ | ⟨y, u, rfl, rfl⟩
      · rw [key_ll] at h; exact wpAny_eqBool_int h
      · rw [key_lr] at h; exact SeqAt.EqAt.int_str i t y u _ _ _ _ h
    · rcases keyIs_shape hv with ⟨j, u, rfl, rfl⟩ | ⟨y, u, rfl, rfl⟩
      · rw [key_rl] at h; exact SeqAt.EqAt.str_int x t j u _ _ _ _ h
      · rw [key_rr] at h; exact wpAny_eqBool_str h
  «strs» := fun k x t v h => by
    rcases keyIs_shape h with ⟨i, u, rfl, e⟩ | ⟨y, u, rfl, e⟩
    · exact nomatch e
    · injection e with e1 _
      subst e1
      cases v <;> rfl

end L2

namespace L2
open PySem PySem.Spec PyProof.Rows

/-- a value, without the heap -/
inductive V where
  | non | bl (b : Bool) | int (i : Int) | str (x : Str) | byt (b : Array UInt8) | flt (b : UInt64) | ref (a : Addr) | ty (n : String)
  deriving DecidableEq

def RelV : V → Value → Prop
  | .non, u => u = Value.none
  | .bl b, u => u = Value.bool b
  | .int i, u => ∃ t, u = Value.int i t
  | .str x, u => ∃ t, u = Value.str x t
  | .byt b, u => ∃ t, u = Value.bytes b t
  | .flt b, u => ∃ t, u = Value.float b t
  | .ref a, u => u = Value.ref a
  | .ty n, u => u = Value.type n

abbrev Vals : List V → List Value → Prop := Paired RelV
theorem Vals.length {xs : List V} {us : List Value} (r : Vals xs us) : xs.length = us.length := Paired.length r
theorem Vals.get : ∀ {xs : List V} {us : List Value} {i : Nat} {x : V}, Vals xs us → xs[i]? = some x → ∃ u, us[i]? = some u ∧ RelV x u
  | _, _, _, _, .nil, e => by simp at e
  | _, _, 0, _, .cons r _, e => by simp at e; subst e; exact ⟨_, rfl, r⟩
  | _, _, i + 1, x, .cons _ t, e => by
    obtain ⟨u, h1, h2⟩ := Vals.get (i := i) (x := x) t (by simpa using e)
    exact ⟨u, by simpa using h1, h2⟩
theorem Vals.set {x : V} {u : Value} (r : RelV x u) : ∀ {xs : List V} {us : List Value} (i : Nat), Vals xs us → Vals (xs.set i x) (us.set i u)
  | _, _, _, .nil => .nil
  | _, _, 0, .cons _ t => .cons r t
  | _, _, i + 1, .cons q t => .cons q (Vals.set r i t)
theorem Vals.append : ∀ {xs ys : List V} {us ws : List Value}, Vals xs us → Vals ys ws → Vals (xs ++ ys) (us ++ ws)
  | _, _, _, _, .nil, s => s
  | _, _, _, _, .cons r t, s => .cons r (Vals.append t s)
theorem Vals.take : ∀ {xs : List V} {us : List Value} (n : Nat), Vals xs us → Vals (xs.take n) (us.take n)
  | _, _, 0, _ => .nil
  | _, _, _ + 1, .nil => .nil
  | _, _, n + 1, .cons r t => .cons r (Vals.take n t)
theorem Vals.drop : ∀ {xs : List V} {us : List Value} (n : Nat), Vals xs us → Vals (xs.drop n) (us.drop n)
  | _, _, 0, r => r
  | _, _, _ + 1, .nil => .nil
  | _, _, n + 1, .cons _ t => Vals.drop n t
def RelO : Option V → Option Value → Prop
  | some v, some u => RelV v u
  | none, none => True
  | _, _ => False
def KV {κ : Type} : List (κ × V) → List (κ × Value) → Prop := Paired fun (p : κ × V) (q : κ × Value) => p.1 = q.1 ∧ RelV p.2 q.2

/-- a key of a dict (00_mix): an int or a text -/
def kV : Key → V
  | .inl i => .int i
  | .inr x => .str x

/-- what stands at a tracked address -/
inductive HO where
  /-- a list -/
  | lst (xs : List V)
  /-- a tuple (never changes) -/
  | tup (xs : List V)
  /-- a dict whose keys are ints and texts; one whose keys are tuples of ints and texts (the empty one is both) -/
  | dK (kvs : List (Key × V)) | dT (kvs : List (List Key × V))
  /-- a set of ints: its members, its size -/
  | set (S : Int → Bool) (n : Nat)
  /-- an instance of the class at C, its dict at dx, its attributes -/
  | ins (C dx : Addr) (fs : List (Str × V))
  /-- the dict of the instance at x -/
  | own (x : Addr)
  /-- the dict of an exception -/
  | xd (fs : List (Str × V))
  /-- a bound method, f of x -/
  | met (f x : Addr)
  /-- a range object lo, lo + 1, .. below hi -/
  | rng (lo hi : Int)
  /-- a thing that is known to the object (the script; a dict while a loop walks it): read, never written while it is so -/
  | frz (o : Obj) (u : HO)
  /-- a code object's table -/
  | tbl (ps : Array Value)
  /-- any other thing, by what is true of its one object (a def of one's own: SetO a S n := HO.ext fun h => ..) -/
  | ext (φ : Heap → Prop)

abbrev Hp := Addr → Option HO
def upd (H : Hp) (a : Addr) (o : HO) : Hp := fun b => if b = a then some o else H b
theorem upd_same {H : Hp} {a : Addr} {o : HO} : upd H a o a = some o := by unfold upd; rw [if_pos rfl]
theorem upd_ne {H : Hp} {a b : Addr} {o : HO} (h : b ≠ a) : upd H a o b = H b := by unfold upd; rw [if_neg h]
theorem ne_of_none {H : Hp} {a b : Addr} {o : HO} (h : H a = some o) (h' : H b = none) : a ≠ b := by
  intro e; subst e; rw [h] at h'; cases h'

section
variable (P : Program) (w : World)
def ObjOk (H : Hp) (h : Heap) (a : Addr) : HO → Prop
  | .lst xs => xs.length ≤ sizeLine ∧ ∃ (its : List Value) (n : Nat), Vals xs its ∧ h.get? a = some { cls := .type "list", data := .seq its.toArray n }
  | .tup xs => xs.length ≤ sizeLine ∧ ∃ its : List Value, Vals xs its ∧ IsTup h a its.toArray
  | .dK kvs => kvs.length ≤ sizeLine ∧ (a == sysModules) = false ∧ ∃ vs, KV kvs vs ∧ h.DictOf (mixKind P w) a vs
  | .dT kvs => kvs.length ≤ sizeLine ∧ (a == sysModules) = false ∧ ∃ xs : List (List Key × Addr × Value),
      Paired (fun (p : List Key × V) (q : List Key × Addr × Value) => p.1 = q.1 ∧ H q.2.1 = some (.tup (p.1.map kV)) ∧ RelV p.2 q.2.2) kvs xs ∧
      ∃ o es ep, h.get? a = some o ∧ o.ExactDict ∧ o.data = .dict es ep ∧ es.toList = xs.map (entryOfKey (tupleKind (mixKind P w))) ∧ (xs.map (·.1)).Nodup
  | .set S n => h.SetOf (intKind P w) a S n
  | .ins C dx fs => H dx = some (.own a) ∧ fs.length ≤ 1000 ∧ dx ≠ a ∧ h.get? a = some (PySem.W.instObj C dx) ∧
      ∃ mA, h.Ns1 dx mA ∧ (∀ f, RelO (fs.lookup f) (mA f)) ∧ PySem.Within mA (fs.map (·.1))
  | .own _ => ∃ o, h.get? a = some o
  | .xd fs => ∃ mA, h.Ns1 a mA ∧ ∀ f, RelO (fs.lookup f) (mA f)
  | .rng lo hi => ∃ t u v, h.get? a = some { cls := .type "range", data := .fields #[.int lo t, .int hi u, .int 1 v] }
  | .frz o u => h.get? a = some o ∧ ObjOk H h a u
  | .tbl ps => h.get? a = some { cls := .none, data := .fields ps }
  | .met f x => h.get? a = some (PySem.W.methodObj (.ref f) (.ref x))
  | .ext φ => φ h ∧ (∃ o, h.get? a = some o) ∧ ∀ h1 h2 : Heap, φ h1 → (∀ o, h1.get? a = some o → h2.get? a = some o) → φ h2
/-- the abstract heap is held -/
def HOk (H : Hp) (h : Heap) : Prop := ∀ a o, H a = some o → ObjOk P w H h a o
end

section
variable {P : Program} {w : World} {H H' : Hp} {h h' : Heap} {a : Addr} {o : HO}
theorem ObjOk.lt (x : ObjOk P w H h a o) : a < h.objs.size := by
  cases o with
  | lst xs => obtain ⟨_, _, _, _, e⟩ := x; exact Heap.lt_size e
  | tup xs => obtain ⟨_, _, _, p⟩ := x; exact p.lt
  | dK kvs => obtain ⟨_, _, _, _, o, _, _, e, _⟩ := x; exact Heap.lt_size e
  | dT kvs => obtain ⟨_, _, _, _, o, _, _, e, _⟩ := x; exact Heap.lt_size e
  | set S n => obtain ⟨o, _, _, _, e, _⟩ := x; exact Heap.lt_size e
  | ins C dx fs => obtain ⟨_, _, _, e, _⟩ := x; exact Heap.lt_size e
  | own y => obtain ⟨_, e⟩ := x; exact Heap.lt_size e
  | xd fs => obtain ⟨_, ⟨_, _, _, e, _⟩, _⟩ := x; exact Heap.lt_size e
  | rng lo hi => obtain ⟨_, _, _, e⟩ := x; exact Heap.lt_size e
  | frz ob u => obtain ⟨e, _⟩ := x; exact Heap.lt_size e
  | tbl ps => exact Heap.lt_size (show h.get? a = some _ from x)
  | met f y => exact Heap.lt_size (show h.get? a = some _ from x)
  | ext φ => obtain ⟨_, ⟨_, e⟩, _⟩ := x; exact Heap.lt_size e
theorem Paired.mapP {α β : Type} {F G : α → β → Prop} : ∀ {l₁ : List α} {l₂ : List β}, Paired F l₁ l₂ → (∀ a b, F a b → G a b) → Paired G l₁ l₂
  | _, _, .nil, _ => .nil
  | _, _, .cons r t, f => .cons (f _ _ r) (Paired.mapP t f)
/-- what an object's description leans on: its own object, its own dict, the tuples -/
theorem ObjOk.stay (x : ObjOk P w H h a o) (k : ∀ b u, (b = a ∨ H b = some (.own a)) → h.get? b = some u → h'.get? b = some u)
    (ho : ∀ b, H b = some (.own a) → H' b = some (.own a)) (ht : ∀ b xs, H b = some (.tup xs) → H' b = some (.tup xs)) : ObjOk P w H' h' a o := by
  induction o with
  | lst xs => obtain ⟨z, its, n, r, e⟩ := x; exact ⟨z, its, n, r, k _ _ (.inl rfl) e⟩
  | tup xs => obtain ⟨z, its, r, ob, e, c⟩ := x; exact ⟨z, its, r, ob, k _ _ (.inl rfl) e, c⟩
  | dK kvs => obtain ⟨z, y, vs, r, ob, es, ep, e, c⟩ := x; exact ⟨z, y, vs, r, ob, es, ep, k _ _ (.inl rfl) e, c⟩
  | dT kvs =>
    obtain ⟨z, y, xs, r, ob, es, ep, e, c⟩ := x
    exact ⟨z, y, xs, Paired.mapP r fun p q z => ⟨z.1, ht _ _ z.2.1, z.2.2⟩, ob, es, ep, k _ _ (.inl rfl) e, c⟩
  | set S n => obtain ⟨ob, es, ep, t, e, c⟩ := x; exact ⟨ob, es, ep, t, k _ _ (.inl rfl) e, c⟩
  | ins C dx fs =>
    obtain ⟨d, z, ne, e, mA, ⟨od, es, ep, e2, c⟩, r⟩ := x
    exact ⟨ho _ d, z, ne, k _ _ (.inl rfl) e, mA, ⟨od, es, ep, k _ _ (.inr d) e2, c⟩, r⟩
  | own y => obtain ⟨ob, e⟩ := x; exact ⟨ob, k _ _ (.inl rfl) e⟩
  | xd fs => obtain ⟨mA, ⟨od, es, ep, e, c⟩, r⟩ := x; exact ⟨mA, ⟨od, es, ep, k _ _ (.inl rfl) e, c⟩, r⟩
  | rng lo hi => obtain ⟨t, u, v, e⟩ := x; exact ⟨t, u, v, k _ _ (.inl rfl) e⟩
  | frz ob u ih => obtain ⟨e, q⟩ := x; exact ⟨k _ _ (.inl rfl) e, ih q⟩
  | tbl ps =>
    have e : h.get? a = some { cls := .none, data := .fields ps } := x
    show h'.get? a = some { cls := .none, data := .fields ps }
    exact k a _ (.inl rfl) e
  | met f y =>
    have e : h.get? a = some (PySem.W.methodObj (.ref f) (.ref y)) := x
    show h'.get? a = some (PySem.W.methodObj (.ref f) (.ref y))
    exact k a _ (.inl rfl) e
  | ext φ => obtain ⟨p, ⟨o, e⟩, st⟩ := x; exact ⟨st _ _ p fun o q => k _ _ (.inl rfl) q, ⟨o, k _ _ (.inl rfl) e⟩, st⟩
theorem HOk.lt (x : HOk P w H h) (e : H a = some o) : a < h.objs.size := (x a o e).lt
theorem HOk.fresh (x : HOk P w H h) (e : h.objs.size ≤ a) : H a = none := by
  cases q : H a with
  | none => rfl
  | some u => exact absurd (Nat.lt_of_lt_of_le (x.lt q) e) (Nat.lt_irrefl _)
/-- every object of the heap is kept -/
theorem HOk.kept (x : HOk P w H h) (k : ∀ b u, h.get? b = some u → h'.get? b = some u) : HOk P w H h' := fun a o e =>
  (x a o e).stay (fun b u _ q => k b u q) (fun _ q => q) fun _ _ q => q
/-- a new object is laid and tracked -/
theorem HOk.laid (x : HOk P w H h) (k : ∀ b u, h.get? b = some u → h'.get? b = some u) (hp : h.objs.size ≤ a) (new : ObjOk P w (upd H a o) h' a o) : HOk P w (upd H a o) h' := fun b u e => by
  have hn := x.fresh hp
  by_cases hb : b = a
  · subst hb; rw [upd_same] at e; cases e; exact new
  · rw [upd_ne hb] at e
    exact (x b u e).stay (fun c v _ q => k c v q) (fun c q => by rw [upd_ne (ne_of_none q hn)]; exact q) fun c xs q => by rw [upd_ne (ne_of_none q hn)]; exact q
end

/-- what may be read as u: it is u, or a known u -/
def Rd (H : Hp) (a : Addr) (u : HO) : Prop := H a = some u ∨ ∃ o, H a = some (.frz o u)
theorem Rd.of {H : Hp} {a : Addr} {u : HO} (h : H a = some u) : Rd H a u := .inl h
theorem Rd.ok {P : Program} {w : World} {H : Hp} {h : Heap} {a : Addr} {u : HO} (r : Rd H a u) (x : HOk P w H h) : ObjOk P w H h a u := by
  rcases r with r | ⟨o, r⟩
  · exact x a u r
  · obtain ⟨_, q⟩ := x a _ r
    exact q
/-- what may be written -/
def Mut : Option HO → Prop
  | some (.lst _) => True
  | some (.dK _) => True
  | some (.dT _) => True
  | some (.set _ _) => True
  | some (.ins _ _ _) => True
  | some (.ext _) => True
  | _ => False
section
variable {P : Program} {w : World} {H : Hp} {h h' : Heap} {x e : Addr} {o' : HO}
/-- the object at e is changed: x itself, or the dict of the instance x -/
theorem HOk.write (ok : HOk P w H h) (mu : Mut (H x)) (he : e = x ∨ H e = some (.own x)) (k : ∀ b u, b ≠ e → h.get? b = some u → h'.get? b = some u) (heo : ∃ u, h'.get? e = some u)
    (new : ObjOk P w (upd H x o') h' x o') : HOk P w (upd H x o') h' := fun b u q => by
  have nown : ∀ c y, H c = some (.own y) → c ≠ x := fun c y r z => by subst z; rw [r] at mu; exact mu
  have ntup : ∀ c xs, H c = some (.tup xs) → c ≠ x := fun c xs r z => by subst z; rw [r] at mu; exact mu
  by_cases hb : b = x
  · subst hb; rw [upd_same] at q; cases q; exact new
  · rw [upd_ne hb] at q
    by_cases hbe : b = e
    · have q' : H b = some (.own x) := by
        rcases he with z | z
        · exact absurd (hbe.trans z) hb
        · rw [hbe]; exact z
      rw [q] at q'; cases q'
      obtain ⟨v, hv⟩ := heo
      exact ⟨v, by rw [hbe]; exact hv⟩
    · refine (ok b u q).stay (fun c v hc r => k c v ?_ r) (fun c r => by rw [upd_ne (nown c b r)]; exact r) fun c xs r => by rw [upd_ne (ntup c xs r)]; exact r
      rcases hc with rfl | hc
      · exact hbe
      · rintro rfl
        rcases he with z | z
        · exact nown c b hc z
        · rw [hc] at z; cases z; exact hb rfl
end

/-! ### kept unless tracked; of the frames at fs (the callers') the slots may change (an exception that passes writes there); of the records at ex (iterators) nothing is said -/
structure Un (fs ex : List Addr) (H H' : Hp) (h h' : Heap) : Prop where
  keep : ∀ b o, h.get? b = some o → H b = none → b ∉ fs → b ∉ ex → h'.get? b = some o
  slot : ∀ b o, h.get? b = some o → H b = none → b ∈ fs → b ∉ ex → ∃ sl, h'.get? b = some { o with slots := sl }
  free : ∀ b o, h.get? b = some o → H b = none → b ∉ ex → H' b = none
  there : ∀ b o, h.get? b = some o → b ∉ ex → ∃ o', h'.get? b = some o'
  tups : ∀ b xs, H b = some (.tup xs) → H' b = some (.tup xs)
  frzs : ∀ b o u, H b = some (.frz o u) → H' b = some (.frz o u)
  tbls : ∀ b ps, H b = some (.tbl ps) → ∃ more, H' b = some (.tbl (ps ++ more))
section
variable {fs fs' ex ex' : List Addr} {H H1 H2 : Hp} {h h1 h2 h' : Heap} {a x e : Addr} {o : HO}
theorem Un.any (u : Un fs ex H H1 h h1) {b : Addr} {ob : Obj} (q : h.get? b = some ob) (n : H b = none) (hx : b ∉ ex) : ∃ sl, h1.get? b = some { ob with slots := sl } := by
  by_cases hb : b ∈ fs
  · exact u.slot b ob q n hb hx
  · exact ⟨ob.slots, u.keep b ob q n hb hx⟩
theorem Un.trans (a : Un fs ex H H1 h h1) (b : Un fs ex H1 H2 h1 h2) : Un fs ex H H2 h h2 where
  keep := fun c ob q n hc hx => b.keep c ob (a.keep c ob q n hc hx) (a.free c ob q n hx) hc hx
  slot := fun c ob q n hc hx => by
    obtain ⟨sl, e1⟩ := a.slot c ob q n hc hx
    obtain ⟨sl', e2⟩ := b.slot c _ e1 (a.free c ob q n hx) hc hx
    exact ⟨sl', e2⟩
  free := fun c ob q n hx => by
    obtain ⟨o', e1⟩ := a.there c ob q hx
    exact b.free c o' e1 (a.free c ob q n hx) hx
  there := fun c ob q hx => by
    obtain ⟨o', e1⟩ := a.there c ob q hx
    exact b.there c o' e1 hx
  tups := fun c xs q => b.tups c xs (a.tups c xs q)
  frzs := fun c ob xs q => b.frzs c ob xs (a.frzs c ob xs q)
  tbls := fun c ps q => by
    obtain ⟨m1, e1⟩ := a.tbls c ps q
    obtain ⟨m2, e2⟩ := b.tbls c _ e1
    exact ⟨m1 ++ m2, by rw [e2, Array.append_assoc]⟩
theorem Un.kept (k : ∀ b u, h.get? b = some u → h'.get? b = some u) : Un fs ex H H h h' :=
  ⟨fun b ob q _ _ _ => k b ob q, fun b ob q _ _ _ => ⟨ob.slots, k b ob q⟩, fun _ _ _ n _ => n, fun b ob q _ => ⟨ob, k b ob q⟩, fun _ _ q => q, fun _ _ _ q => q, fun _ ps q => ⟨#[], by rw [q]; simp⟩⟩
theorem Un.refl : Un fs ex H H h h := Un.kept fun _ _ q => q
theorem Un.laid (k : ∀ b u, h.get? b = some u → h'.get? b = some u) (hp : h.objs.size ≤ a) (hn : H a = none) : Un fs ex H (upd H a o) h h' where
  keep := fun b u q _ _ _ => k b u q
  slot := fun b u q _ _ _ => ⟨u.slots, k b u q⟩
  free := fun b u q n _ => by rw [upd_ne (Nat.ne_of_lt (Nat.lt_of_lt_of_le (Heap.lt_size q) hp))]; exact n
  there := fun b u q _ => ⟨u, k b u q⟩
  tups := fun b xs q => by rw [upd_ne (ne_of_none q hn)]; exact q
  frzs := fun b u xs q => by rw [upd_ne (ne_of_none q hn)]; exact q
  tbls := fun b ps q => ⟨#[], by rw [upd_ne (ne_of_none q hn), q]; simp⟩
theorem Un.write (mu : Mut (H x)) (he : e = x ∨ H e = some (.own x)) (k : ∀ b u, b ≠ e → h.get? b = some u → h'.get? b = some u) (heo : ∃ u, h'.get? e = some u) : Un fs ex H (upd H x o) h h' := by
  have hx : ∀ b, H b = none → b ≠ x := fun b n z => by subst z; rw [n] at mu; exact mu
  have hb : ∀ b, H b = none → b ≠ e := fun b n z => by
    subst z
    rcases he with r | r
    · exact hx b n r
    · rw [n] at r; cases r
  have hm : ∀ b u, H b = some u → ¬ Mut (some u) → b ≠ x := fun b u q nm z => by subst z; rw [q] at mu; exact nm mu
  refine ⟨fun b u q n _ _ => k b u (hb b n) q, fun b u q n _ _ => ⟨u.slots, k b u (hb b n) q⟩, fun b u q n _ => by rw [upd_ne (hx b n)]; exact n, fun b u q _ => ?_,
    fun b xs q => by rw [upd_ne (hm b _ q fun z => z)]; exact q, fun b u xs q => by rw [upd_ne (hm b _ q fun z => z)]; exact q, fun b ps q => ⟨#[], by rw [upd_ne (hm b _ q fun z => z), q]; simp⟩⟩
  by_cases hbe : b = e
  · subst hbe; exact heo
  · exact ⟨u, k b u hbe q⟩
theorem Un.mono (u : Un fs ex H H1 h h1) (hs : ∀ b ∈ fs, b ∈ fs') (hx : ∀ b ∈ ex, b ∈ ex') : Un fs' ex' H H1 h h1 :=
  ⟨fun b ob q n hb he => u.keep b ob q n (fun z => hb (hs b z)) fun z => he (hx b z), fun _ _ q n _ he => u.any q n fun z => he (hx _ z), fun b ob q n he => u.free b ob q n fun z => he (hx b z), fun b ob q he => u.there b ob q fun z => he (hx b z), u.tups, u.frzs, u.tbls⟩
end

/-! ### the heap without what is tracked -/
def trk (h : Heap) (H : Hp) : List Addr := (List.range h.objs.size).filter fun a => (H a).isSome
def hidT (h : Heap) (H : Hp) : Heap := PySem.W.hideAll h (trk h H)
theorem hidT_size (h : Heap) (H : Hp) : (hidT h H).objs.size = h.objs.size := PySem.W.hideAll_size _ _
theorem hidT_get {h : Heap} {H : Hp} {b : Addr} {o : Obj} (e : h.get? b = some o) (n : H b = none) : (hidT h H).get? b = some o :=
  PySem.W.hideAll_get _ e fun hm => by
    have q : (H b).isSome = true := (List.mem_filter.mp hm).2
    rw [n] at q; simp at q
theorem of_hidT {h : Heap} {H : Hp} {b : Addr} {o : Obj} (e : (hidT h H).get? b = some o) : h.get? b = some o ∧ H b = none := by
  have e' : h.get? b = some o := PySem.W.of_hideAll (trk h H) e
  refine ⟨e', ?_⟩
  cases q : H b with
  | none => rfl
  | some x =>
    have hm : b ∈ trk h H := List.mem_filter.mpr ⟨List.mem_range.mpr (Heap.lt_size e'), by simp [q]⟩
    have z : (hidT h H).get? b = none := PySem.W.hideAll_none (trk h H) hm
    rw [z] at e; cases e

/-! ### OpenK's ledger, filled with every new object but one -/
def allNews (g h : Heap) (L : Addr) : List (Addr × Obj) := (List.range h.objs.size).filterMap fun a => if a = L ∨ (g.get? a).isSome = true then none else (h.get? a).map fun o => (a, o)
def rest (g h : Heap) (L d : Addr) : List (Addr × Obj) := (allNews g h L).filter fun p => decide (p.1 ≠ d)
end L2

namespace L2
open PySem PySem.Spec PyProof.Rows

/-- the module's facts, over the base: the heap at the law's entry without what is tracked there -/
structure Mod (K : PySem.W.Frag) (mg : Str → Option Value) (base : Heap) : Prop where
  kin : K.In base
  glob : base.Ns mainGlobals mg
  blt : ∃ mb, base.Ns builtinsNs mb ∧ ∀ x : Str, x ≠ "__name__" → mb x = bootBuiltins x
  nolimit : base.NoLimit

/-- the context: a def's body (or a comprehension's block) running. base: fixed through the whole law; s₀, H₀: the entry; outer: the frames whose slots others may change (a def's callers); stack: all frames that run;
   ex: iterators that were made ahead of the entry and are walked here (a comprehension's); fn: the names whose cells were made at the entry (a def: all; a comprehension's block: its own); calm: not within an except suite; pn: pins that every state bears; xe: what is wanted of an exception that leaves the code -/
structure Cx where
  prog : Program
  w : World
  K : PySem.W.Frag
  mg : Str → Option Value
  base : Heap
  A : Around
  N : List Str
  s₀ : Shared
  H₀ : Hp
  env : Env
  outer : List Env
  stack : List Env
  ex : List Addr
  fn : Str → Bool
  calm : Bool
  pn : List (Addr × Obj)
  xe : Value → Shared → Prop
/-- the callers' frames -/
def frs (l : List Env) : List Addr := l.filterMap (·.frame)
abbrev Cx.fs (X : Cx) : List Addr := frs X.outer

def Vis (sc : Scope) (x : Str) : Prop := sc.names.lookup x = some .local ∨ sc.names.lookup x = some .cell ∨ sc.names.lookup x = some .free
def Loc (sc : Scope) (x : Str) : Prop := sc.names.lookup x = some .local ∨ sc.names.lookup x = some .cell
def Look (env : Env) (h : Heap) (m : Str → Option Value) (x : Str) (u : Value) : Prop :=
  (env.kindOf x = some .local ∧ m x = some u) ∨ ((env.kindOf x = some .cell ∨ env.kindOf x = some .free) ∧ ∃ c, env.cells.lookup x = some c ∧ h.IsCell c (some u))

structure Cx.Ok (X : Cx) : Prop where
  mod : Mod X.K X.mg X.base
  kind : X.env.scope.kind = .function
  glob : X.env.globals = mainGlobals
  blt : X.env.builtins = builtinsNs
  above : X.s₀.heap.objs.size ≤ X.env.locals
  inj : ∀ x y c, X.env.cells.lookup x = some c → X.env.cells.lookup y = some c → x = y
  has : ∀ x, (X.env.kindOf x = some .cell ∨ X.env.kindOf x = some .free) → ∃ c, X.env.cells.lookup x = some c
  cab : ∀ x c, X.fn x = true → X.env.cells.lookup x = some c → X.s₀.heap.objs.size ≤ c
  hd : X.calm = true → X.A.handled = none
  frames : X.A.frames = some X.stack
  stk : X.stack = X.outer ∨ (X.stack = X.env :: X.outer ∧ X.env.frame = some X.env.locals)
  exf : ∀ b ∈ X.ex, b ≠ X.env.locals ∧ ∀ x c, X.env.cells.lookup x = some c → c ≠ b
  bs : ∀ b o, X.base.get? b = some o → X.s₀.heap.get? b = some o ∧ X.H₀ b = none
  bsz : X.base.objs.size ≤ X.s₀.heap.objs.size
  noex : ∀ b o, X.base.get? b = some o → b ∉ X.ex
  exfs : ∀ b ∈ X.ex, b ∉ X.fs
  funs : X.s₀.heap.FunFrames X.base X.outer
  frf : ∀ b ∈ X.fs, X.H₀ b = none

structure Inv (X : Cx) (pins : List (Addr × Obj)) (σ : List (Option V)) (H : Hp) (s : Shared) : Prop where
  ok : X.Ok
  os : s.os = X.s₀.os
  bare : AllBare s.gens
  base : Un X.fs X.ex X.H₀ H X.s₀.heap s.heap
  loc : ∃ m, s.heap.Ns X.env.locals m ∧ ∀ (i : Nat) (x : Str) (v : V), X.N[i]? = some x → σ[i]? = some (some v) → Vis X.env.scope x → ∃ u, RelV v u ∧ Look X.env s.heap m x u
  cell : ∀ x c, X.env.cells.lookup x = some c → ∃ v, s.heap.IsCell c v
  free : H X.env.locals = none
  freeC : ∀ x c, X.env.cells.lookup x = some c → H c = none
  pin : ∀ p ∈ X.pn ++ pins, s.heap.get? p.1 = some p.2 ∧ H p.1 = none ∧ p.1 ≠ X.env.locals ∧ p.1 ∉ X.fs ∧ ∀ v, p.2.data ≠ .cell v
  hok : HOk X.prog X.w H s.heap
  len : σ.length = X.N.length

section
variable {X : Cx} {pins : List (Addr × Obj)} {σ : List (Option V)} {H H' : Hp} {s : Shared} {h' : Heap}

theorem Cx.Ok.nofr (ok : X.Ok) {b : Addr} {o : Obj} (e : X.base.get? b = some o) : b ∉ X.fs := fun hb => by
  have := (ok.funs.mem hb).1
  rw [e] at this; cases this
theorem Inv.bs (I : Inv X pins σ H s) : ∀ b o, X.base.get? b = some o → s.heap.get? b = some o ∧ H b = none := fun b o e =>
  ⟨I.base.keep b o (I.ok.bs b o e).1 (I.ok.bs b o e).2 (I.ok.nofr e) (I.ok.noex b o e), I.base.free b o (I.ok.bs b o e).1 (I.ok.bs b o e).2 (I.ok.noex b o e)⟩
theorem Inv.bk (I : Inv X pins σ H s) : ∀ b o, X.base.get? b = some o → s.heap.get? b = some o := fun b o e => (I.bs b o e).1
theorem Inv.mod (I : Inv X pins σ H s) : Mod X.K X.mg X.base := I.ok.mod
theorem Inv.kIn (I : Inv X pins σ H s) : X.K.In s.heap := I.ok.mod.kin.keeps I.bk
theorem Inv.nolimit (I : Inv X pins σ H s) : s.heap.NoLimit := I.ok.mod.nolimit.keeps I.bk
/-- the frame over the base: for OpenK's rules (K.In X.base is I.mod.kin) -/
theorem Inv.fr (I : Inv X pins σ H s) : ∃ m, Fr X.base X.env.locals s.heap m :=
  let ⟨m, hn, _⟩ := I.loc
  ⟨m, hn, I.bk, Nat.le_trans I.ok.bsz I.ok.above⟩
theorem Inv.lt (I : Inv X pins σ H s) : X.env.locals < s.heap.objs.size := let ⟨_, hn, _⟩ := I.loc; hn.lt
theorem Inv.sz (I : Inv X pins σ H s) : X.s₀.heap.objs.size ≤ s.heap.objs.size := Nat.le_trans I.ok.above (Nat.le_of_lt I.lt)
theorem Inv.nofs (I : Inv X pins σ H s) {a : Addr} (h : s.heap.objs.size ≤ a) : a ∉ X.fs := fun hb => by
  obtain ⟨_, o, ho, _⟩ := I.ok.funs.mem hb
  exact absurd (Nat.lt_of_lt_of_le (Heap.lt_size ho) (Nat.le_trans I.sz h)) (Nat.lt_irrefl _)
theorem Inv.cne (I : Inv X pins σ H s) : ∀ x c, X.env.cells.lookup x = some c → c ≠ X.env.locals := fun x c e z => by
  obtain ⟨v, o, ho, hd⟩ := I.cell x c e
  obtain ⟨m, ⟨o', es, ep, ho', hd', _⟩, _⟩ := I.loc
  rw [z, ho'] at ho; cases ho; rw [hd'] at hd; cases hd
theorem Inv.funs (I : Inv X pins σ H s) : s.heap.FunFrames X.base X.outer := by
  have all : ∀ (l : List Env), (∀ b ∈ frs l, b ∈ X.fs) → X.s₀.heap.FunFrames X.base l → s.heap.FunFrames X.base l := by
    intro l
    induction l with
    | nil => intro _ _; trivial
    | cons env r ih =>
      intro hs hl
      obtain ⟨hk, ⟨L, o, hf, hn, ho, hd⟩, hr⟩ := hl
      have hL : L ∈ X.fs := hs L (by unfold frs; rw [List.filterMap_cons, hf]; exact List.mem_cons_self)
      obtain ⟨sl, e⟩ := I.base.slot L o ho (I.ok.frf L hL) hL fun z => I.ok.exfs L z hL
      exact ⟨hk, ⟨L, _, hf, hn, e, hd⟩, ih (fun b hb => hs b (by unfold frs; rw [List.filterMap_cons, hf]; exact List.mem_cons_of_mem _ hb)) hr⟩
  exact all X.outer (fun _ hb => hb) I.ok.funs

/-- the frames that run, for a call -/
theorem Inv.stack (I : Inv X pins σ H s) : s.heap.FunFrames X.base X.stack := by
  rcases I.ok.stk with e | ⟨e, hf⟩
  · rw [e]; exact I.funs
  · rw [e]
    obtain ⟨m, hn, _⟩ := I.loc
    refine .cons (by rw [I.ok.kind]; decide) hf hn ?_ I.funs
    exact Heap.get?_none_of_le (Nat.le_trans I.ok.bsz I.ok.above)
theorem Inv.stkSub (I : Inv X pins σ H s) : ∀ b ∈ frs X.stack, b ∈ X.env.locals :: X.fs := fun b hb => by
  rcases I.ok.stk with e | ⟨e, hf⟩
  · rw [e] at hb; exact List.mem_cons_of_mem _ hb
  · rw [e] at hb
    unfold frs at hb
    rw [List.filterMap_cons, hf] at hb
    exact hb
theorem Inv.stkFree (I : Inv X pins σ H s) : ∀ b ∈ frs X.stack, H b = none := fun b hb => by
  rcases List.mem_cons.mp (I.stkSub b hb) with e | hb
  · rw [e]; exact I.free
  · obtain ⟨_, o, ho, _⟩ := I.ok.funs.mem hb
    exact I.base.free b o ho (I.ok.frf b hb) fun z => I.ok.exfs b z hb

/-- THE STEP: the untracked objects but the frame and the records at ch are kept (the callers' frames up to slots), the frame's map is kept, the new abstract heap is held -/
theorem Inv.step {g' : Array GenState} {t' : Nat} {d' : Drawn} {ch : List Addr} (I : Inv X pins σ H s)
    (hch : ∀ b ∈ ch, (b ∈ X.ex ∨ X.s₀.heap.objs.size ≤ b) ∧ b ≠ X.env.locals ∧ (∀ x c, X.env.cells.lookup x = some c → c ≠ b) ∧ ∀ p ∈ X.pn ++ pins, p.1 ≠ b)
    (keep : ∀ b o, b ≠ X.env.locals → b ∉ X.fs → b ∉ ch → s.heap.get? b = some o → H b = none → h'.get? b = some o)
    (slot : ∀ b o, b ≠ X.env.locals → b ∈ X.fs → b ∉ ch → s.heap.get? b = some o → H b = none → ∃ sl, h'.get? b = some { o with slots := sl }) (free : ∀ b o, b ∉ ch → s.heap.get? b = some o → H b = none → H' b = none)
    (there : ∀ b o, b ∉ ch → s.heap.get? b = some o → ∃ o', h'.get? b = some o')
    (tups : ∀ b xs, H b = some (.tup xs) → H' b = some (.tup xs)) (frzs : ∀ b o u, H b = some (.frz o u) → H' b = some (.frz o u)) (tbls : ∀ b ps, H b = some (.tbl ps) → ∃ more, H' b = some (.tbl (ps ++ more)))
    (ns : ∀ m, s.heap.Ns X.env.locals m → h'.Ns X.env.locals m) (hok : HOk X.prog X.w H' h') (hg : AllBare g') :
    Inv X pins σ H' { s with heap := h', gens := g', drawn := d', toks := t' } := by
  have neL : ∀ b o, X.s₀.heap.get? b = some o → b ≠ X.env.locals := fun b o e => Nat.ne_of_lt (Nat.lt_of_lt_of_le (Heap.lt_size e) I.ok.above)
  have neC : ∀ b o, X.s₀.heap.get? b = some o → b ∉ X.ex → b ∉ ch := fun b o e hx hb => by
    rcases (hch b hb).1 with z | z
    · exact hx z
    · exact absurd (Nat.lt_of_lt_of_le (Heap.lt_size e) z) (Nat.lt_irrefl _)
  have cellK : ∀ x c, X.env.cells.lookup x = some c → ∀ v, s.heap.IsCell c v → h'.IsCell c v := fun x c e v ⟨o, ho, hd⟩ => by
    have nch : c ∉ ch := fun z => (hch c z).2.2.1 x c e rfl
    by_cases hc : c ∈ X.fs
    · obtain ⟨sl, q⟩ := slot c o (I.cne x c e) hc nch ho (I.freeC x c e)
      exact ⟨_, q, hd⟩
    · exact ⟨o, keep c o (I.cne x c e) hc nch ho (I.freeC x c e), hd⟩
  refine ⟨I.ok, I.os, hg, ⟨fun b o e n hb hx => ?_, fun b o e n hb hx => ?_, fun b o e n hx => ?_, fun b o e hx => ?_, fun b xs e => tups b xs (I.base.tups b xs e), fun b o xs e => frzs b o xs (I.base.frzs b o xs e), fun b ps e => ?_⟩, ?_, fun x c e => ?_, ?_, fun x c e => ?_, fun p hp => ?_, hok, I.len⟩
  · exact keep b o (neL b o e) hb (neC b o e hx) (I.base.keep b o e n hb hx) (I.base.free b o e n hx)
  · obtain ⟨sl, e1⟩ := I.base.slot b o e n hb hx
    obtain ⟨sl', e2⟩ := slot b _ (neL b o e) hb (neC b o e hx) e1 (I.base.free b o e n hx)
    exact ⟨sl', e2⟩
  · obtain ⟨o', e1⟩ := I.base.there b o e hx
    exact free b o' (neC b o e hx) e1 (I.base.free b o e n hx)
  · obtain ⟨o', e1⟩ := I.base.there b o e hx
    exact there b o' (neC b o e hx) e1
  · obtain ⟨m1, e1⟩ := I.base.tbls b ps e
    obtain ⟨m2, e2⟩ := tbls b _ e1
    exact ⟨m1 ++ m2, by rw [e2, Array.append_assoc]⟩
  · obtain ⟨m, hn, hl⟩ := I.loc
    refine ⟨m, ns m hn, fun i x v e1 e2 e3 => ?_⟩
    obtain ⟨u, r, l⟩ := hl i x v e1 e2 e3
    refine ⟨u, r, ?_⟩
    rcases l with l | ⟨k, c, e, z⟩
    · exact .inl l
    · exact .inr ⟨k, c, e, cellK x c e _ z⟩
  · obtain ⟨v, z⟩ := I.cell x c e
    exact ⟨v, cellK x c e v z⟩
  · obtain ⟨m, ⟨o, _, _, ho, _⟩, _⟩ := I.loc
    exact free _ o (fun z => (hch _ z).2.1 rfl) ho I.free
  · obtain ⟨v, o, ho, hd⟩ := I.cell x c e
    exact free c o (fun z => (hch c z).2.2.1 x c e rfl) ho (I.freeC x c e)
  · obtain ⟨e, n, ne, nf, d⟩ := I.pin p hp
    have nch : p.1 ∉ ch := fun z => (hch p.1 z).2.2.2 p hp rfl
    exact ⟨keep p.1 p.2 ne nf nch e n, free p.1 p.2 nch e n, ne, nf, d⟩
/-- .. where the frame's own object is kept too -/
theorem Inv.un {t' : Nat} (I : Inv X pins σ H s) (u : Un X.fs [] H H' s.heap h') (hok : HOk X.prog X.w H' h') : Inv X pins σ H' { s with heap := h', toks := t' } := by
  obtain ⟨m, ⟨o, es, ep, ho, r⟩, _⟩ := id I.loc
  obtain ⟨sl, hL⟩ := u.any ho I.free (by simp)
  exact I.step (g' := s.gens) (d' := s.drawn) (ch := []) (fun _ z => nomatch z) (fun b o _ hb _ e n => u.keep b o e n hb (by simp)) (fun b o _ hb _ e n => u.slot b o e n hb (by simp)) (fun b o _ e n => u.free b o e n (by simp)) (fun b o _ e => u.there b o e (by simp)) u.tups u.frzs u.tbls (fun m' hm => by
    obtain ⟨o', es', ep', ho', r'⟩ := hm
    rw [ho] at ho'; cases ho'
    exact ⟨_, es', ep', hL, r'⟩) hok I.bare
/-- behind a call (or a comprehension's block): the slots of this frame may have changed too, the records at ch may have turned -/
theorem Inv.call {g' : Array GenState} {t' : Nat} {d' : Drawn} {ch : List Addr} (I : Inv X pins σ H s) (u : Un (frs X.stack) ch H H' s.heap h') (hok : HOk X.prog X.w H' h') (hg : AllBare g')
    (hch : ∀ b ∈ ch, (b ∈ X.ex ∨ X.s₀.heap.objs.size ≤ b) ∧ b ≠ X.env.locals ∧ (∀ x c, X.env.cells.lookup x = some c → c ≠ b) ∧ ∀ p ∈ X.pn ++ pins, p.1 ≠ b) :
    Inv X pins σ H' { s with heap := h', gens := g', drawn := d', toks := t' } := by
  obtain ⟨m, ⟨o, es, ep, ho, r⟩, _⟩ := id I.loc
  obtain ⟨sl, hL⟩ := u.any ho I.free fun z => (hch _ z).2.1 rfl
  exact I.step (ch := ch) hch (fun b o hL hb hc e n => u.keep b o e n (fun z => (List.mem_cons.mp (I.stkSub b z)).elim hL hb) hc) (fun b o _ _ hc e n => u.any e n hc) (fun b o hc e n => u.free b o e n hc) (fun b o hc e => u.there b o e hc) u.tups u.frzs u.tbls (fun m' hm => by
    obtain ⟨o', es', ep', ho', r'⟩ := hm
    rw [ho] at ho'; cases ho'
    exact ⟨_, es', ep', hL, r'⟩) hok hg
/-- an untracked record of ours (an iterator) has turned -/
theorem Inv.turned {t' : Nat} {it : Addr} (I : Inv X pins σ H s) (k : ∀ b o, b ≠ it → s.heap.get? b = some o → h'.get? b = some o) (hn : H it = none) (hL : it ≠ X.env.locals)
    (h1 : it ∈ X.ex ∨ X.s₀.heap.objs.size ≤ it) (h2 : ∀ x c, X.env.cells.lookup x = some c → c ≠ it) (h3 : ∀ p ∈ X.pn ++ pins, p.1 ≠ it) : Inv X pins σ H { s with heap := h', toks := t' } := by
  have nit : ∀ b u, H b = some u → b ≠ it := fun b u e z => by rw [z, hn] at e; cases e
  refine I.step (g' := s.gens) (d' := s.drawn) (ch := [it]) (fun b hb => ?_) (fun b o _ _ hc e _ => k b o (fun z => hc (by simp [z])) e) (fun b o _ _ hc e _ => ⟨o.slots, k b o (fun z => hc (by simp [z])) e⟩) (fun _ _ _ _ n => n)
    (fun b o hc e => ⟨o, k b o (fun z => hc (by simp [z])) e⟩) (fun _ _ e => e) (fun _ _ _ e => e) (fun b ps e => ⟨#[], by rw [e]; simp⟩) (fun m hm => ?_) (fun b u e => ?_) I.bare
  · have e : b = it := by simpa using hb
    subst e
    exact ⟨h1, hL, h2, h3⟩
  · obtain ⟨o, es, ep, ho, r⟩ := hm
    exact ⟨o, es, ep, k _ o (Ne.symm hL) ho, r⟩
  · refine (I.hok b u e).stay (fun c v hc q => k c v ?_ q) (fun _ q => q) fun _ _ q => q
    rcases hc with z | z
    · rw [z]; exact nit b u e
    · exact nit c _ z
theorem Inv.tok (I : Inv X pins σ H s) (t : Nat) : Inv X pins σ H { s with toks := t } := I.un (h' := s.heap) (t' := t) Un.refl I.hok
/-- all objects kept -/
theorem Inv.kept {t' : Nat} (I : Inv X pins σ H s) (k : ∀ b u, s.heap.get? b = some u → h'.get? b = some u) : Inv X pins σ H { s with heap := h', toks := t' } := I.un (Un.kept k) (I.hok.kept k)
/-- a new object laid and tracked -/
theorem Inv.laid {a : Addr} {o : HO} {t' : Nat} (I : Inv X pins σ H s) (k : ∀ b u, s.heap.get? b = some u → h'.get? b = some u) (hp : s.heap.objs.size ≤ a) (new : ObjOk X.prog X.w (upd H a o) h' a o) :
    Inv X pins σ (upd H a o) { s with heap := h', toks := t' } := I.un (Un.laid k hp (I.hok.fresh hp)) (I.hok.laid k hp new)
/-- an object written -/
theorem Inv.write {x e : Addr} {o : HO} {t' : Nat} (I : Inv X pins σ H s) (mu : Mut (H x)) (he : e = x ∨ H e = some (.own x)) (k : ∀ b u, b ≠ e → s.heap.get? b = some u → h'.get? b = some u) (heo : ∃ u, h'.get? e = some u)
    (new : ObjOk X.prog X.w (upd H x o) h' x o) : Inv X pins σ (upd H x o) { s with heap := h', toks := t' } := I.un (Un.write mu he k heo) (I.hok.write mu he k heo new)
/-- forgetting slots, pins -/
theorem Inv.weak {σ' : List (Option V)} (I : Inv X pins σ H s) (hl : σ'.length = σ.length) (w : ∀ (i : Nat) v, σ'[i]? = some (some v) → σ[i]? = some (some v)) : Inv X pins σ' H s :=
  ⟨I.ok, I.os, I.bare, I.base, let ⟨m, hn, hl'⟩ := I.loc; ⟨m, hn, fun i x v e1 e2 e3 => hl' i x v e1 (w i v e2) e3⟩, I.cell, I.free, I.freeC, I.pin, I.hok, hl.trans I.len⟩
theorem Inv.pins_of {pins' : List (Addr × Obj)} (I : Inv X pins σ H s) (h : ∀ p ∈ pins', s.heap.get? p.1 = some p.2 ∧ H p.1 = none ∧ p.1 ≠ X.env.locals ∧ p.1 ∉ X.fs ∧ ∀ v, p.2.data ≠ .cell v) : Inv X pins' σ H s :=
  ⟨I.ok, I.os, I.bare, I.base, I.loc, I.cell, I.free, I.freeC, fun p hp => (List.mem_append.mp hp).elim (fun z => I.pin p (List.mem_append_left _ z)) (h p), I.hok, I.len⟩

theorem nodup_ix {N : List Str} (hN : N.Nodup) {i j : Nat} {x : Str} (a : N[i]? = some x) (b : N[j]? = some x) : i = j := by
  obtain ⟨h1, e1⟩ := List.getElem?_eq_some_iff.mp a
  obtain ⟨h2, e2⟩ := List.getElem?_eq_some_iff.mp b
  exact (List.getElem_inj hN).mp (e1.trans e2.symm)

/-- a name is stored; what changed -/
theorem store_ok2 {M : Model} {A : Around} {E : Value → Shared → Prop} {i : Nat} {x : Str} {v : V} {u : Value} {Q : Unit → Shared → Prop} (I : Inv X pins σ H s) (hN : X.N.Nodup) (hi : X.N[i]? = some x) (hx : Loc X.env.scope x) (r : RelV v u)
    (h : ∀ s', Inv X pins (σ.set i (some v)) H s' → (∃ a, Heap.SameBut a s.heap s'.heap ∧ (a = X.env.locals ∨ X.env.cells.lookup x = some a)) → Q () s') (hf : X.fn x = true ∨ X.env.scope.names.lookup x = some .local := by first | exact .inl rfl | exact .inr rfl | assumption) : wpAny M A (storeName X.env x u) Q E s := by
  obtain ⟨m, hn, hl⟩ := id I.loc
  have hcls : (X.env.scope.kind == .class || (X.env.scope.kind == .module && X.env.locals != X.env.globals)) = false := by rw [I.ok.kind]; rfl
  have hiσ : i < σ.length := by rw [I.len]; exact (List.getElem?_eq_some_iff.mp hi).1
  have cne := I.cne
  have tracked : ∀ {a : Addr} {h' : Heap}, (∃ o, s.heap.get? a = some o ∧ H a = none) → Heap.SameBut a s.heap h' → HOk X.prog X.w H h' := fun {a h'} ha hs b ob e => by
    obtain ⟨_, _, hfree⟩ := ha
    refine (I.hok b ob e).stay (fun c w' hc q => (hs.2 c ?_).trans q) (fun _ q => q) fun _ _ q => q
    rintro rfl
    rcases hc with rfl | hc
    · rw [hfree] at e; cases e
    · rw [hfree] at hc; cases hc
  rcases hx with hk | hk
  · refine wpAny_storeName_local hk hn (fun h' hn' hs => ?_) hcls
    obtain ⟨oL, _, _, hoL, _⟩ := id hn
    refine h _ ⟨I.ok, I.os, I.bare, ⟨fun b o e n hb hx => ?_, fun b o e n hb hx => ?_, I.base.free, fun b o e hx => ?_, I.base.tups, I.base.frzs, I.base.tbls⟩, ⟨_, hn', fun j y v' e1 e2 e3 => ?_⟩, fun y c e => ?_, I.free, I.freeC, fun p hp => ?_, tracked ⟨oL, hoL, I.free⟩ hs, by simpa using I.len⟩ ⟨_, hs, .inl rfl⟩
    · exact (hs.2 b (Nat.ne_of_lt (Nat.lt_of_lt_of_le (Heap.lt_size e) I.ok.above))).trans (I.base.keep b o e n hb hx)
    · obtain ⟨sl, e1⟩ := I.base.slot b o e n hb hx
      exact ⟨sl, (hs.2 b (Nat.ne_of_lt (Nat.lt_of_lt_of_le (Heap.lt_size e) I.ok.above))).trans e1⟩
    · obtain ⟨o', e1⟩ := I.base.there b o e hx
      exact ⟨o', (hs.2 b (Nat.ne_of_lt (Nat.lt_of_lt_of_le (Heap.lt_size e) I.ok.above))).trans e1⟩
    · by_cases hj : j = i
      · subst hj
        rw [hi] at e1; cases e1
        rw [List.getElem?_set_self hiσ] at e2
        cases e2
        exact ⟨u, r, .inl ⟨hk, by simp⟩⟩
      · rw [List.getElem?_set_ne (Ne.symm hj)] at e2
        obtain ⟨u', r', q⟩ := hl j y v' e1 e2 e3
        refine ⟨u', r', ?_⟩
        rcases q with ⟨k, e⟩ | ⟨k, c, e, z⟩
        · refine .inl ⟨k, ?_⟩
          have : y ≠ x := fun e => hj (nodup_ix hN e1 (e ▸ hi))
          simp [this, e]
        · exact .inr ⟨k, c, e, z.sameBut hs (cne y c e)⟩
    · obtain ⟨w', z⟩ := I.cell y c e
      exact ⟨w', z.sameBut hs (cne y c e)⟩
    · obtain ⟨e, n, ne, nf, d⟩ := I.pin p hp
      exact ⟨(hs.2 p.1 ne).trans e, n, ne, nf, d⟩
  · have hfn : X.fn x = true := by
      rcases hf with z | z
      · exact z
      · rw [z] at hk; cases hk
    obtain ⟨c, hc⟩ := I.ok.has x (.inl hk)
    obtain ⟨w', z⟩ := I.cell x c hc
    refine wpAny_storeName_cell I.ok.kind hk hc z (fun h' hc' hs => ?_)
    obtain ⟨oc, hoc, hocd⟩ := id z
    refine h { s with heap := h' } ⟨I.ok, I.os, I.bare, ⟨fun b o e n hb hx => ?_, fun b o e n hb hx => ?_, I.base.free, fun b o e hx => ?_, I.base.tups, I.base.frzs, I.base.tbls⟩, ⟨m, hn.sameBut hs (Ne.symm (cne x c hc)), fun j y v' e1 e2 e3 => ?_⟩, fun y c' e => ?_, I.free, I.freeC, fun p hp => ?_, tracked ⟨oc, hoc, I.freeC x c hc⟩ hs, by simpa using I.len⟩ ⟨c, hs, .inr hc⟩
    · exact (hs.2 b (Nat.ne_of_lt (Nat.lt_of_lt_of_le (Heap.lt_size e) (I.ok.cab x c hfn hc)))).trans (I.base.keep b o e n hb hx)
    · obtain ⟨sl, e1⟩ := I.base.slot b o e n hb hx
      exact ⟨sl, (hs.2 b (Nat.ne_of_lt (Nat.lt_of_lt_of_le (Heap.lt_size e) (I.ok.cab x c hfn hc)))).trans e1⟩
    · obtain ⟨o', e1⟩ := I.base.there b o e hx
      exact ⟨o', (hs.2 b (Nat.ne_of_lt (Nat.lt_of_lt_of_le (Heap.lt_size e) (I.ok.cab x c hfn hc)))).trans e1⟩
    · by_cases hj : j = i
      · subst hj
        rw [hi] at e1; cases e1
        rw [List.getElem?_set_self hiσ] at e2
        cases e2
        exact ⟨u, r, .inr ⟨.inl hk, c, hc, hc'⟩⟩
      · rw [List.getElem?_set_ne (Ne.symm hj)] at e2
        obtain ⟨u', r', q⟩ := hl j y v' e1 e2 e3
        refine ⟨u', r', ?_⟩
        rcases q with q | ⟨k, c', e, z'⟩
        · exact .inl q
        · refine .inr ⟨k, c', e, z'.sameBut hs ?_⟩
          rintro rfl
          exact hj (nodup_ix hN e1 (I.ok.inj _ _ _ e hc ▸ hi))
    · by_cases hcc : c' = c
      · subst hcc; exact ⟨_, hc'⟩
      · obtain ⟨w2, z2⟩ := I.cell y c' e
        exact ⟨w2, z2.sameBut hs hcc⟩
    · obtain ⟨e, n, ne, nf, d⟩ := I.pin p hp
      refine ⟨(hs.2 p.1 ?_).trans e, n, ne, nf, d⟩
      intro q
      rw [q, hoc] at e
      have q' : oc = p.2 := Option.some.inj e
      exact d w' (by rw [← q']; exact hocd)
theorem store_ok {M : Model} {A : Around} {E : Value → Shared → Prop} {i : Nat} {x : Str} {v : V} {u : Value} {Q : Unit → Shared → Prop} (I : Inv X pins σ H s) (hN : X.N.Nodup) (hi : X.N[i]? = some x) (hx : Loc X.env.scope x) (r : RelV v u)
    (h : ∀ s', Inv X pins (σ.set i (some v)) H s' → Q () s') (hf : X.fn x = true ∨ X.env.scope.names.lookup x = some .local := by first | exact .inl rfl | exact .inr rfl | assumption) : wpAny M A (storeName X.env x u) Q E s :=
  store_ok2 I hN hi hx r (fun s' I' _ => h s' I') hf
/-- behind a call or a block, the state as it is -/
theorem Inv.call' {s' : Shared} {ch : List Addr} (I : Inv X pins σ H s) (ho : s'.os = s.os) (u : Un (frs X.stack) ch H H' s.heap s'.heap) (hok : HOk X.prog X.w H' s'.heap) (hg : AllBare s'.gens)
    (hch : ∀ b ∈ ch, (b ∈ X.ex ∨ X.s₀.heap.objs.size ≤ b) ∧ b ≠ X.env.locals ∧ (∀ x c, X.env.cells.lookup x = some c → c ≠ b) ∧ ∀ p ∈ X.pn ++ pins, p.1 ≠ b) : Inv X pins σ H' s' := by
  obtain ⟨h', g', d', t', o'⟩ := s'
  have e : o' = s.os := ho
  subst e
  exact I.call (g' := g') (t' := t') (d' := d') u hok hg hch
end

/-! ### the judgements -/
/-- an exception: its class, its own dict's address (where it has one), the abstract heap behind it -/
abbrev XK := Value → Option Addr → Hp → Prop
abbrev St := List (Option V)
abbrev VK := V → Hp → Prop
/-- an expression's reading; a test's; an argument list's -/
abbrev TE := St → Hp → VK → Prop
abbrev TT := St → Hp → (Bool → Hp → Prop) → Prop
abbrev TA := St → Hp → (List V → Hp → Prop) → Prop
/-- what is wanted behind a statement -/
structure Ends where
  nx : St → Hp → Prop
  rt : VK
  bk : St → Hp → Prop := fun _ _ => False
  ct : St → Hp → Prop := fun _ _ => False
abbrev TS := Ends → St → Hp → Prop

def EP (X : Cx) (pins : List (Addr × Obj)) (σ : St) (Q : VK) (u : Value) (s' : Shared) : Prop := ∃ v H', Inv X pins σ H' s' ∧ RelV v u ∧ Q v H'
def TP (X : Cx) (pins : List (Addr × Obj)) (σ : St) (Q : Bool → Hp → Prop) (b : Bool) (s' : Shared) : Prop := ∃ H', Inv X pins σ H' s' ∧ Q b H'
def AP (X : Cx) (pins : List (Addr × Obj)) (σ : St) (Q : List V → Hp → Prop) (us : List Value) (s' : Shared) : Prop := ∃ vs H', Inv X pins σ H' s' ∧ Vals vs us ∧ Q vs H'
def SP (X : Cx) (pins : List (Addr × Obj)) (D : Ends) (f : Flow) (s' : Shared) : Prop :=
  match f with
  | .next => ∃ σ' H', Inv X pins σ' H' s' ∧ D.nx σ' H'
  | .brk => ∃ σ' H', Inv X pins σ' H' s' ∧ D.bk σ' H'
  | .cont => ∃ σ' H', Inv X pins σ' H' s' ∧ D.ct σ' H'
  | .ret u => ∃ v σ' H', Inv X pins σ' H' s' ∧ RelV v u ∧ D.rt v H'

def PE (X : Cx) (e : Expr) (t : TE) : Prop :=
  ∀ (pins : List (Addr × Obj)) (s : Shared) (σ : St) (H : Hp) (Q : VK), Inv X pins σ H s → t σ H Q → wpAny (model X.prog X.w) X.A (eval e X.env) (EP X pins σ Q) X.xe s
def PT (X : Cx) (e : Expr) (t : TT) : Prop :=
  ∀ (pins : List (Addr × Obj)) (s : Shared) (σ : St) (H : Hp) (Q : Bool → Hp → Prop), Inv X pins σ H s → t σ H Q → wpAny (model X.prog X.w) X.A (isTrue e X.env (eval e X.env)) (TP X pins σ Q) X.xe s
/-- a test whatever its 'whole' is (and, or) -/
def PW (X : Cx) (e : Expr) (t : TT) : Prop :=
  ∀ (whole : Sem Value) (pins : List (Addr × Obj)) (s : Shared) (σ : St) (H : Hp) (Q : Bool → Hp → Prop), Inv X pins σ H s → t σ H Q → wpAny (model X.prog X.w) X.A (isTrue e X.env whole) (TP X pins σ Q) X.xe s
theorem PW.pt {X : Cx} {e : Expr} {t : TT} (h : PW X e t) : PT X e t := h _
/-- an argument list (no star), from the left -/
def PA (X : Cx) (es : List Expr) (t : TA) : Prop :=
  ∀ (pos : Pos) (pins : List (Addr × Obj)) (s : Shared) (σ : St) (H : Hp) (Q : List V → Hp → Prop), Inv X pins σ H s → t σ H Q → wpAny (model X.prog X.w) X.A (spliced (backTo pos (starEach es X.env))) (AP X pins σ Q) X.xe s
def PS (X : Cx) (st : Stmt) (t : TS) : Prop :=
  ∀ (pins : List (Addr × Obj)) (s : Shared) (σ : St) (H : Hp) (D : Ends), Inv X pins σ H s → t D σ H → wpAny (model X.prog X.w) X.A (exec st X.env) (SP X pins D) X.xe s
def PSs (X : Cx) (st : List Stmt) (t : TS) : Prop :=
  ∀ (pins : List (Addr × Obj)) (s : Shared) (σ : St) (H : Hp) (D : Ends), Inv X pins σ H s → t D σ H → wpAny (model X.prog X.w) X.A (execs st X.env) (SP X pins D) X.xe s
/-- weaken the end -/
theorem thn {α : Type} {t : Sem α} {Q Q' : α → Shared → Prop} {M : Model} {A : Around} {E : Value → Shared → Prop} {s : Shared} (h : wpAny M A t Q E s) (hQ : ∀ a s, Q a s → Q' a s) : wpAny M A t Q' E s := wpAny_mono h hQ fun _ _ x => x
end L2

namespace L2
open PySem PySem.Spec PyProof.Rows
section
variable {X : Cx}

/-! ### names and constants -/
def tVar (i : Nat) : TE := fun σ H Q => ∃ v, σ[i]? = some (some v) ∧ Q v H
def tC (v : V) : TE := fun _ H Q => Q v H
theorem pe_var {i : Nat} {x : Str} {pos : Pos} (hN : X.N[i]? = some x) (hv : Vis X.env.scope x) (hd : (x == ("__debug__" : Str)) = false := by decide) (hcd : (x == ("__classdict__" : Str)) = false := by decide) : PE X (.Name x pos) (tVar i) := by
  intro pins s σ H Q I h
  obtain ⟨v, e, h⟩ := h
  obtain ⟨m, hn, hl⟩ := I.loc
  obtain ⟨u, r, l⟩ := hl i x v hN e hv
  have fin : EP X pins σ Q u s := ⟨v, H, I, r, h⟩
  rcases l with ⟨hk, hm⟩ | ⟨hk, c, hc, hcell⟩
  · exact wpAny_Name (wpAny_loadName_local I.ok.kind hk hn hm fin) hd
  · rcases hk with hk | hk
    · exact wpAny_Name (wpAny_loadName_cell I.ok.kind hk hc hcell fin) hd
    · exact wpAny_Name (wpAny_loadName_free I.ok.kind hk hc hcell fin hcd) hd
theorem pe_int {i j pos} : PE X (.Constant (.int i) j pos) (tC (.int i)) := fun _ _ _ H _ I h => wpAny_Constant_int ⟨.int i, H, I.tok _, ⟨_, rfl⟩, h⟩
theorem pe_bl {b j pos} : PE X (.Constant (.bool b) j pos) (tC (.bl b)) := fun _ _ _ H _ I h => Constant_bool ⟨.bl b, H, I, rfl, h⟩
theorem pe_non {j pos} : PE X (.Constant .none j pos) (tC .non) := fun _ _ _ H _ I h => Constant_none ⟨.non, H, I, rfl, h⟩
theorem pe_str {x j pos} : PE X (.Constant (.str x) j pos) (tC (.str x)) := fun _ _ _ H _ I h => Calls.Constant_str ⟨.str x, H, I.tok _, ⟨_, rfl⟩, h⟩

/-- a global name of the def -/
def Gl (X : Cx) (x : Str) : Prop := X.env.kindOf x = some .globalImplicit
theorem ld_glob {E : Value → Shared → Prop} {pins : List (Addr × Obj)} {s : Shared} {σ : St} {H : Hp} {x : Str} {u : Value} {pos : Pos} {Q : Value → Shared → Prop} (I : Inv X pins σ H s) (hg : Gl X x) (hm : X.mg x = some u) (h : Q u s)
    (hd : (x == ("__debug__" : Str)) = false := by decide) : wpAny (model X.prog X.w) X.A (eval (.Name x pos) X.env) Q E s :=
  Calls.Name_function_global I.ok.kind hg (Calls.loadGlobal_global (by rw [I.ok.glob]; exact I.mod.glob.keeps I.bk) hm h) hd
theorem ld_blt {E : Value → Shared → Prop} {pins : List (Addr × Obj)} {s : Shared} {σ : St} {H : Hp} {x : Str} {u : Value} {pos : Pos} {Q : Value → Shared → Prop} (I : Inv X pins σ H s) (hg : Gl X x) (hm : X.mg x = none) (hv : bootBuiltins x = some u) (h : Q u s)
    (hn : x ≠ "__name__" := by decide) (hd : (x == ("__debug__" : Str)) = false := by decide) : wpAny (model X.prog X.w) X.A (eval (.Name x pos) X.env) Q E s := by
  obtain ⟨mb, h1, h2⟩ := I.mod.blt
  exact Calls.Name_function_global I.ok.kind hg (Calls.loadGlobal_builtin (by rw [I.ok.glob]; exact I.mod.glob.keeps I.bk) hm (by rw [I.ok.blt]; exact h1.keeps I.bk) ((h2 x hn).trans hv) h) hd
/-- a module's constant, a class, a function, as a value -/
theorem pe_glob {x : Str} {v : V} {u : Value} {pos : Pos} (hg : Gl X x) (hm : X.mg x = some u) (r : RelV v u) (hd : (x == ("__debug__" : Str)) = false := by decide) : PE X (.Name x pos) (tC v) :=
  fun _ _ _ H _ I h => ld_glob I hg hm ⟨v, H, I, r, h⟩ hd
theorem pe_bltn {x : Str} {v : V} {u : Value} {pos : Pos} (hg : Gl X x) (hm : X.mg x = none) (hv : bootBuiltins x = some u) (r : RelV v u) (hn : x ≠ "__name__" := by decide) (hd : (x == ("__debug__" : Str)) = false := by decide) : PE X (.Name x pos) (tC v) :=
  fun _ _ _ H _ I h => ld_blt I hg hm hv ⟨v, H, I, r, h⟩ hn hd

/-! ### arithmetic -/
variable {a b : Expr} {ta tb : TE} {pos : Pos}
/-! ### comparisons -/
def PC (X : Cx) (op : CmpOp) (a b : Expr) (t : TE) : Prop :=
  ∀ (pins : List (Addr × Obj)) (s : Shared) (σ : St) (H : Hp) (Q : VK), Inv X pins σ H s → t σ H Q →
    wpAny (model X.prog X.w) X.A (eval a X.env) (fun v s₁ => wpAny (model X.prog X.w) X.A (eval b X.env) (fun u s₂ => wpAny (model X.prog X.w) X.A (compareOp op v u) (EP X pins σ Q) X.xe s₂) X.xe s₁) X.xe s
theorem nobehind (b : Expr) {op : CmpOp} (h : op ≠ .In) (h2 : op ≠ .NotIn) : behindInMarks op b = false := by
  have e1 : (op == CmpOp.In) = false := by cases op <;> first | rfl | exact absurd rfl h
  have e2 : (op == CmpOp.NotIn) = false := by cases op <;> first | rfl | exact absurd rfl h2
  cases b <;> simp [behindInMarks, e1, e2]
/-- a comparison as a value, as a test -/
def tB (t : TE) : TT := fun σ H Q => t σ H fun x H1 => ∃ c, x = .bl c ∧ Q c H1
theorem pt_cmp {op : CmpOp} {t : TE} (h : PC X op a b t) (h1 : behindInMarks op b = false := by first | exact nobehind _ (by decide) (by decide) | rfl) : PT X (.Compare a [op] [b] pos) (tB t) := by
  intro pins s σ H Q I hw
  refine wpAny_isTrue_Compare1 (thn (h pins s σ H _ I hw) fun v s1 h1 => thn h1 fun u s2 h2 => thn h2 fun c s3 ⟨x, H1, I1, r1, q1⟩ => ?_) h1
  obtain ⟨d, rfl, q⟩ := q1
  cases r1
  exact wpAny_truthy_bool ⟨H1, I1, q⟩
/-! ### and, or, not -/
variable {tA tB' : TT} {rest : List Expr}
def tOr (t u : TT) : TT := fun σ H Q => t σ H fun c H1 => if c = true then Q true H1 else u σ H1 Q
def tNot (t : TT) : TT := fun σ H Q => t σ H fun c H1 => Q (!c) H1
theorem pw_or1 (ha : PT X a tA) : PW X (.BoolOp .Or [a] pos) tA := by
  intro wh pins s σ H Q I h
  refine isTrue_or (thn (ha pins s σ H Q I h) fun c s1 e => ?_)
  cases c with
  | false => exact isTrue_or_nil e
  | true => exact e
theorem pw_or (ha : PT X a tA) (hb : PW X (.BoolOp .Or (b :: rest) pos) tB') : PW X (.BoolOp .Or (a :: b :: rest) pos) (tOr tA tB') := by
  intro wh pins s σ H Q I h
  refine isTrue_or (thn (ha pins s σ H _ I h) fun c s1 ⟨H1, I1, q1⟩ => ?_)
  cases c with
  | true => exact ⟨H1, I1, q1⟩
  | false => exact hb wh pins s1 σ H1 Q I1 q1
theorem pt_not (ha : PT X a tA) : PT X (.UnaryOp .Not a pos) (tNot tA) := by
  intro pins s σ H Q I h
  exact isTrue_not (ha pins s σ H (fun c H1 => Q (!c) H1) I h)
/-- .. as values (bools) -/
def tAndV (ta tb : TE) : TE := fun σ H Q => ta σ H fun x H1 => ∃ c, x = .bl c ∧ if c = true then tb σ H1 Q else Q (.bl false) H1
theorem pe_one {op} {t : TE} (h : PE X a t) : PE X (.BoolOp op [a] pos) t := fun pins s σ H Q I hw => BoolOp_one (h pins s σ H Q I hw)
theorem pe_and (ha : PE X a ta) (hb : PE X (.BoolOp .And (b :: rest) pos) tb) : PE X (.BoolOp .And (a :: b :: rest) pos) (tAndV ta tb) := by
  intro pins s σ H Q I h
  refine BoolOp_and (thn (ha pins s σ H _ I h) fun v s1 ⟨x, H1, I1, r1, q1⟩ => ?_)
  obtain ⟨c, rfl, q1⟩ := q1
  cases r1
  refine wpAny_truthy_bool ?_
  cases c with
  | true => exact hb pins s1 σ H1 Q I1 q1
  | false => exact ⟨.bl false, H1, I1, rfl, q1⟩
/-- a if t else b -/
def tIf (t : TT) (ta tb : TE) : TE := fun σ H Q => t σ H fun c H1 => if c = true then ta σ H1 Q else tb σ H1 Q
theorem pe_ifExp {c : Expr} (hc : PT X c tA) (ha : PE X a ta) (hb : PE X b tb) : PE X (.IfExp c a b pos) (tIf tA ta tb) := by
  intro pins s σ H Q I h
  refine wpAny_IfExp (thn (hc pins s σ H _ I h) fun d s1 ⟨H1, I1, q1⟩ => ?_)
  cases d with
  | true => exact ha pins s1 σ H1 Q I1 q1
  | false => exact hb pins s1 σ H1 Q I1 q1
end
end L2

namespace L2
open PySem PySem.Spec PyProof.Rows

/-! ### a list, a tuple that is read: tracked, frozen, or an object of the module -/
def SqL (K : PySem.W.Frag) (H : Hp) (a : Addr) (xs : List V) : Prop :=
  Rd H a (.lst xs) ∨
    ∃ (o : Obj) (its : Array Value) (n : Nat), K.lookup a = some o ∧ o.cls = .type "list" ∧ o.dict = none ∧ o.data = .seq its n ∧ its.size ≤ sizeLine ∧ Vals xs its.toList
def SqT (K : PySem.W.Frag) (H : Hp) (a : Addr) (xs : List V) : Prop :=
  Rd H a (.tup xs) ∨
    ∃ (o : Obj) (its : Array Value) (n : Nat), K.lookup a = some o ∧ o.cls = .type "tuple" ∧ o.data = .seq its n ∧ its.size ≤ sizeLine ∧ Vals xs its.toList
def absV : Value → Option V
  | .none => some .non
  | .bool b => some (.bl b)
  | .int i _ => some (.int i)
  | .str x _ => some (.str x)
  | .bytes b _ => some (.byt b)
  | .float b _ => some (.flt b)
  | .ref a => some (.ref a)
  | .type n => some (.ty n)
  | _ => none
theorem RelV.abs {x : V} {u : Value} (r : RelV x u) : absV u = some x := by
  cases x with
  | non => cases r; rfl
  | bl _ => cases r; rfl
  | int _ => obtain ⟨t, rfl⟩ := r; rfl
  | str _ => obtain ⟨t, rfl⟩ := r; rfl
  | byt _ => obtain ⟨t, rfl⟩ := r; rfl
  | flt _ => obtain ⟨t, rfl⟩ := r; rfl
  | ref _ => cases r; rfl
  | ty _ => cases r; rfl
theorem RelV.inj {x y : V} {u : Value} (r : RelV x u) (q : RelV y u) : x = y := Option.some.inj (r.abs.symm.trans q.abs)
theorem Vals.inj : ∀ {xs ys : List V} {us : List Value}, Vals xs us → Vals ys us → xs = ys
  | _, _, _, .nil, .nil => rfl
  | _, _, _, .cons r t, .cons r' t' => by rw [r.inj r', Vals.inj t t']
section
variable {X : Cx} {pins : List (Addr × Obj)} {σ : St} {H : Hp} {s : Shared} {a : Addr} {xs ys : List V}
theorem SqL.of {K : PySem.W.Frag} (h : H a = some (.lst xs)) : SqL K H a xs := .inl (.inl h)
theorem SqT.of {K : PySem.W.Frag} (h : H a = some (.tup xs)) : SqT K H a xs := .inl (.inl h)
theorem Inv.list (I : Inv X pins σ H s) (h : SqL X.K H a xs) : ∃ its : List Value, Vals xs its ∧ PlainL s.heap a its.toArray ∧ xs.length ≤ sizeLine := by
  rcases h with h | ⟨o, its, n, hk, hc, hd, hs, hz, r⟩
  · obtain ⟨z, its, n, r, e⟩ := h.ok I.hok
    exact ⟨its, r, ⟨_, n, e, rfl, rfl, rfl⟩, z⟩
  · refine ⟨its.toList, r, ⟨o, n, I.kIn a o hk, hc, hd, by simpa using hs⟩, ?_⟩
    have e := r.length
    simp only [Array.length_toList] at e
    omega
theorem Inv.tuple (I : Inv X pins σ H s) (h : SqT X.K H a xs) : ∃ its : List Value, Vals xs its ∧ IsTup s.heap a its.toArray ∧ xs.length ≤ sizeLine := by
  rcases h with h | ⟨o, its, n, hk, hc, hs, hz, r⟩
  · obtain ⟨z, its, r, p⟩ := h.ok I.hok
    exact ⟨its, r, p, z⟩
  · refine ⟨its.toList, r, ⟨o, I.kIn a o hk, hc, n, by simpa using hs⟩, ?_⟩
    have e := r.length
    simp only [Array.length_toList] at e
    omega
theorem Inv.list_inj (I : Inv X pins σ H s) (h : SqL X.K H a xs) (h' : SqL X.K H a ys) : xs = ys := by
  obtain ⟨its, r, ⟨o, n, e, _, _, d⟩, _⟩ := I.list h
  obtain ⟨its', r', ⟨o', n', e', _, _, d'⟩, _⟩ := I.list h'
  rw [e] at e'; cases e'
  rw [d] at d'
  injection d' with d1 _
  have : its = its' := by simpa using congrArg Array.toList d1
  subst this
  exact r.inj r'
theorem Inv.tuple_inj (I : Inv X pins σ H s) (h : SqT X.K H a xs) (h' : SqT X.K H a ys) : xs = ys := by
  obtain ⟨its, r, ⟨o, e, _, n, d⟩, _⟩ := I.tuple h
  obtain ⟨its', r', ⟨o', e', _, n', d'⟩, _⟩ := I.tuple h'
  rw [e] at e'; cases e'
  rw [d] at d'
  injection d' with d1 _
  have : its = its' := by simpa using congrArg Array.toList d1
  subst this
  exact r.inj r'
end

/-! ### another wish about exceptions -/
abbrev Cx.wish (X : Cx) (E : Value → Shared → Prop) : Cx := { X with xe := E }
/-- no exception leaves -/
abbrev Cx.nox (X : Cx) : Cx := X.wish fun _ _ => False
theorem Cx.Ok.wish {X : Cx} (ok : X.Ok) (E : Value → Shared → Prop) : (X.wish E).Ok :=
  ⟨ok.mod, ok.kind, ok.glob, ok.blt, ok.above, ok.inj, ok.has, ok.cab, ok.hd, ok.frames, ok.stk, ok.exf, ok.bs, ok.bsz, ok.noex, ok.exfs, ok.funs, ok.frf⟩
theorem Cx.Ok.unwish {X : Cx} {E : Value → Shared → Prop} (ok : (X.wish E).Ok) : X.Ok :=
  ⟨ok.mod, ok.kind, ok.glob, ok.blt, ok.above, ok.inj, ok.has, ok.cab, ok.hd, ok.frames, ok.stk, ok.exf, ok.bs, ok.bsz, ok.noex, ok.exfs, ok.funs, ok.frf⟩
section
variable {X : Cx} {pins : List (Addr × Obj)} {σ : St} {H : Hp} {s : Shared} {E : Value → Shared → Prop}
theorem Inv.wish (I : Inv X pins σ H s) (E : Value → Shared → Prop) : Inv (X.wish E) pins σ H s := ⟨I.ok.wish E, I.os, I.bare, I.base, I.loc, I.cell, I.free, I.freeC, I.pin, I.hok, I.len⟩
theorem Inv.unwish (I : Inv (X.wish E) pins σ H s) : Inv X pins σ H s := ⟨I.ok.unwish, I.os, I.bare, I.base, I.loc, I.cell, I.free, I.freeC, I.pin, I.hok, I.len⟩
theorem SP.unwish {D : Ends} {f : Flow} {s' : Shared} (h : SP (X.wish E) pins D f s') : SP X pins D f s' := by
  cases f with
  | next => obtain ⟨σ', H', I, q⟩ := h; exact ⟨σ', H', I.unwish, q⟩
  | brk => obtain ⟨σ', H', I, q⟩ := h; exact ⟨σ', H', I.unwish, q⟩
  | cont => obtain ⟨σ', H', I, q⟩ := h; exact ⟨σ', H', I.unwish, q⟩
  | ret u => obtain ⟨v, σ', H', I, r, q⟩ := h; exact ⟨v, σ', H', I.unwish, r, q⟩
theorem PE.nox {e : Expr} {t : TE} (h : PE X.nox e t) : PE X e t := fun pins s σ H Q I hw =>
  wpAny_mono (h pins s σ H Q (I.wish _) hw) (fun _ _ ⟨v, H', I', r, q⟩ => ⟨v, H', I'.unwish, r, q⟩) fun _ _ z => False.elim z
theorem PT.nox {e : Expr} {t : TT} (h : PT X.nox e t) : PT X e t := fun pins s σ H Q I hw =>
  wpAny_mono (h pins s σ H Q (I.wish _) hw) (fun _ _ ⟨H', I', q⟩ => ⟨H', I'.unwish, q⟩) fun _ _ z => False.elim z
theorem PSs.nox {st : List Stmt} {t : TS} (h : PSs X.nox st t) : PSs X st t := fun pins s σ H D I hw =>
  wpAny_mono (h pins s σ H D (I.wish _) hw) (fun _ _ q => q.unwish) fun _ _ z => False.elim z
end

/-! ### blocks and small statements -/
section
variable {X : Cx} {st : Stmt} {rest : List Stmt} {t u : TS} {e : Expr} {te : TE} {pos : Pos}
def tNext : TS := fun D σ H => D.nx σ H
def tSeq (t u : TS) : TS := fun D σ H => t { D with nx := u D } σ H
theorem pss_nil : PSs X [] tNext := fun _ _ σ H _ I h => wpAny_execs_nil ⟨σ, H, I, h⟩
theorem pss_cons (h1 : PS X st t) (h2 : PSs X rest u) : PSs X (st :: rest) (tSeq t u) := by
  intro pins s σ H D I h
  refine wpAny_execs_cons (thn (h1 pins s σ H { D with nx := u D } I h) fun f s1 q => ?_)
  cases f with
  | next =>
    obtain ⟨σ', H', I', q⟩ := q
    exact h2 pins s1 σ' H' D I' q
  | ret v => exact q
  | brk => exact q
  | cont => exact q
theorem pss_one (h1 : PS X st t) : PSs X [st] t := by
  intro pins s σ H D I h
  refine wpAny_execs_cons (thn (h1 pins s σ H D I h) fun f s1 q => ?_)
  cases f with
  | next => exact wpAny_execs_nil q
  | ret v => exact q
  | brk => exact q
  | cont => exact q
/-- in a def's body nothing is shown -/
theorem Inv.quiet {pins : List (Addr × Obj)} {σ : St} {H : Hp} {s : Shared} (I : Inv X pins σ H s) : interactive X.env = false := by simp [interactive, I.ok.kind]
/-- an expression whose value is dropped -/
def tDrop (te : TE) : TS := fun D σ H => te σ H fun _ H1 => D.nx σ H1
theorem ps_expr (he : PE X e te) (hs : swapsWith e none pos.line X.env = pure false := by rfl) : PS X (.Expr e pos) (tDrop te) := by
  intro pins s σ H D I h
  exact wpAny_Expr_any (thn (he pins s σ H _ I h) fun v s1 ⟨x, H1, I1, r1, q1⟩ => ⟨σ, H1, I1, q1⟩) I.quiet hs
def tRet (te : TE) : TS := fun D σ H => te σ H D.rt
theorem ps_ret (he : PE X e te) : PS X (.Return (some e) pos) (tRet te) := by
  intro pins s σ H D I h
  exact wpAny_Return_some (thn (he pins s σ H _ I h) fun v s1 ⟨x, H1, I1, r1, q1⟩ => ⟨x, σ, H1, I1, r1, q1⟩)
def tIfS (c : TT) (t u : TS) : TS := fun D σ H => c σ H fun b H1 => if b = true then t D σ H1 else u D σ H1
theorem ps_if {c : Expr} {a b : List Stmt} {tc : TT} (hc : PT X c tc) (ha : PSs X a t) (hb : PSs X b u) : PS X (.If c a b pos) (tIfS tc t u) := by
  intro pins s σ H D I h
  refine wpAny_If (thn (hc pins s σ H _ I h) fun d s1 ⟨H1, I1, q1⟩ => ?_)
  cases d with
  | true => exact ha pins s1 σ H1 D I1 q1
  | false => exact hb pins s1 σ H1 D I1 q1
end

/-! ### targets -/
abbrev TG := V → St → Hp → (St → Hp → Prop) → Prop
abbrev TGs := List V → St → Hp → (St → Hp → Prop) → Prop
def PG (X : Cx) (target : Expr) (t : TG) : Prop :=
  ∀ (pins : List (Addr × Obj)) (s : Shared) (σ : St) (H : Hp) (v : V) (u : Value) (Q : St → Hp → Prop), Inv X pins σ H s → RelV v u → t v σ H Q →
    wpAny (model X.prog X.w) X.A (assign target X.env u) (fun _ s' => ∃ σ' H', Inv X pins σ' H' s' ∧ Q σ' H') X.xe s
/-- several targets, one after another -/
def PGs (X : Cx) (ts : List Expr) (t : TGs) : Prop :=
  ∀ (pins : List (Addr × Obj)) (s : Shared) (σ : St) (H : Hp) (vs : List V) (us : List Value) (Q : St → Hp → Prop), Inv X pins σ H s → Vals vs us → t vs σ H Q →
    wpAny (model X.prog X.w) X.A (assignInOrder ((assignEach ts X.env).map (·.2)) us) (fun _ s' => ∃ σ' H', Inv X pins σ' H' s' ∧ Q σ' H') X.xe s
/-- o[i] = v, by values -/
abbrev TSet := V → V → V → Hp → (Hp → Prop) → Prop
section
variable {X : Cx} {pos : Pos}
def gName (i : Nat) : TG := fun v σ H Q => Q (σ.set i (some v)) H
theorem pg_name {i : Nat} {x : Str} (hN : X.N.Nodup) (hi : X.N[i]? = some x) (hx : Loc X.env.scope x) (hf : X.fn x = true ∨ X.env.scope.names.lookup x = some .local := by first | exact .inl rfl | exact .inr rfl | assumption) : PG X (.Name x pos) (gName i) := by
  intro pins s σ H v u Q I r h
  exact wpAny_assign_Name (store_ok I hN hi hx r (fun s' I' => ⟨_, H, I', h⟩) hf)
def gNil : TGs := fun vs σ H Q => vs = [] ∧ Q σ H
def gCons (t : TG) (u : TGs) : TGs := fun vs σ H Q => ∃ v r, vs = v :: r ∧ t v σ H fun σ' H' => u r σ' H' Q
theorem pgs_nil : PGs X [] gNil := by
  intro pins s σ H vs us Q I r h
  obtain ⟨e, h⟩ := h
  subst e
  cases r
  exact assignInOrder_nil ⟨σ, H, I, h⟩
theorem pgs_cons {e : Expr} {es : List Expr} {t : TG} {u : TGs} (h1 : PG X e t) (h2 : PGs X es u)
    (hs : (assignEach (e :: es) X.env).map (·.2) = assign e X.env :: (assignEach es X.env).map (·.2) := by rfl) : PGs X (e :: es) (gCons t u) := by
  intro pins s σ H vs us Q I r h
  obtain ⟨v, vr, e1, h⟩ := h
  subst e1
  cases r with
  | cons r rr =>
    rw [hs]
    refine assignInOrder_cons (thn (h1 pins s σ H _ _ _ I r h) fun _ s1 ⟨σ1, H1, I1, q1⟩ => ?_)
    exact h2 pins s1 σ1 H1 _ _ Q I1 rr q1
/-- (a, b, ..) = a tuple of that length -/
def gTup (K : PySem.W.Frag) (n : Nat) (t : TGs) : TG := fun v σ H Q => ∃ a xs, v = .ref a ∧ SqT K H a xs ∧ xs.length = n ∧ t xs σ H Q
theorem pg_tup {es : List Expr} {k : Nat} {t : TGs} {n : Nat} (hc : X.calm = true) (h : PGs X es t)
    (hn : (assignEach es X.env).length = n := by rfl) (hst : (assignEach es X.env).findIdx? (·.1) = none := by rfl) : PG X (.Tuple es k pos) (gTup X.K n t) := by
  intro pins s σ H v u Q I r hw
  obtain ⟨a, xs, e1, hq, hl, hw⟩ := hw
  subst e1
  cases r
  obtain ⟨its, rv, ht, hz⟩ := I.tuple hq
  refine assign_Tuple_tuple (I.ok.hd hc) ht (by simp [hn, ← hl, rv.length]) hst fun h' hx => ?_
  have I1 : Inv X pins σ H { s with heap := h' } := I.kept (t' := s.toks) fun b o e => hx b o (Nat.ne_of_lt (Heap.lt_size e)) e
  exact h pins _ σ H xs _ Q I1 (by simpa using rv) hw
/-- o[i] = .. -/
def gSub (to ti : TE) (t : TSet) : TG := fun v σ H Q => to σ H fun o H1 => ti σ H1 fun i H2 => t o i v H2 fun H3 => Q σ H3
/-- target = value -/
def tAsg (te : TE) (g : TG) : TS := fun D σ H => te σ H fun x H1 => g x σ H1 D.nx
theorem ps_asg {tg e : Expr} {te : TE} {g : TG} (he : PE X e te) (hg : PG X tg g) (hs : swapsWithSole [tg] e pos.line X.env = pure false := by rfl) (hw : swappedStores [tg] e X.env = pure none := by rfl)
    (h1 : (assignEach [tg] X.env).map (·.2) = [assign tg X.env] := by rfl) : PS X (.Assign [tg] e pos) (tAsg te g) := by
  intro pins s σ H D I h
  refine wpAny_Assign_stores (thn (he pins s σ H _ I h) fun v s1 ⟨x, H1, I1, r1, q1⟩ => ?_) hs hw
  rw [h1]
  exact thn (hg pins s1 σ H1 x v _ I1 r1 q1) fun _ s2 q => q
end

/-! ### while -/
section
variable {X : Cx} {pos : Pos}
end

/-! ### what a loop or a comprehension walks -/
/-- at turn i: it yields x (the heap may grow), or it stops -/
structure It where
  go : Nat → Hp → Prop
  yld : Nat → Hp → V → Hp → Prop
  stop : Nat → Hp → Prop
/-- the iterator's own objects may turn: they are not the frame's, not pinned, younger than the entry (or a comprehension's own) -/
def FpOk (X : Cx) (pins : List (Addr × Obj)) (H : Hp) (b : Addr) : Prop :=
  H b = none ∧ b ≠ X.env.locals ∧ b ∉ X.fs ∧ (b ∈ X.ex ∨ X.s₀.heap.objs.size ≤ b) ∧ (∀ x c, X.env.cells.lookup x = some c → c ≠ b) ∧ ∀ p ∈ X.pn ++ pins, p.1 ≠ b
theorem Inv.fpOk {X : Cx} {pins : List (Addr × Obj)} {σ : St} {H H' : Hp} {s : Shared} {b : Addr} (I : Inv X pins σ H s) (hb : s.heap.objs.size ≤ b) (hn : H' b = none) : FpOk X pins H' b := by
  refine ⟨hn, Nat.ne_of_gt (Nat.lt_of_lt_of_le I.lt hb), I.nofs hb, .inr (Nat.le_trans I.sz hb), fun x c e z => ?_, fun p hp z => ?_⟩
  · obtain ⟨v, q⟩ := I.cell x c e
    exact absurd (Nat.lt_of_lt_of_le q.lt (by rw [z]; exact hb)) (Nat.lt_irrefl _)
  · exact absurd (Nat.lt_of_lt_of_le (Heap.lt_size (I.pin p hp).1) (by rw [z]; exact hb)) (Nat.lt_irrefl _)
structure Turn (P : Program) (w : World) (K : PySem.W.Frag) (tg : Expr) (J : It) (fp : List Addr) (it : Addr) (tn : Nat → Heap → Prop) : Prop where
  mem : it ∈ fp
  obj : ∀ i h, tn i h → ∀ b ∈ fp, ∃ o, h.get? b = some o ∧ ∀ v, o.data ≠ .cell v
  keep : ∀ i h h', tn i h → (∀ b ∈ fp, ∀ o, h.get? b = some o → h'.get? b = some o) → tn i h'
  item : ∀ (X : Cx), X.prog = P → X.w = w → X.K = K → X.calm = true → ∀ (i : Nat) (pins : List (Addr × Obj)) (s : Shared) (σ : St) (H : Hp) (E : Value → Shared → Prop), Inv X pins σ H s → (∀ b ∈ fp, FpOk X pins H b) → tn i s.heap → J.go i H →
    wpAny (model P w) X.A (pyNext (.ref it)) (fun r s1 => ∃ u, r = some u ∧
      wpAny (model P w) X.A (letOwnedTupleGo tg (.ref it) u) (fun _ s2 => ∃ x H', Inv X pins σ H' s2 ∧ RelV x u ∧ J.yld i H x H' ∧ tn (i + 1) s2.heap ∧ ∀ b ∈ fp, H' b = none) E s1) E s
  done : ∀ (X : Cx), X.prog = P → X.w = w → X.K = K → X.calm = true → ∀ (i : Nat) (pins : List (Addr × Obj)) (s : Shared) (σ : St) (H : Hp) (E : Value → Shared → Prop), Inv X pins σ H s → (∀ b ∈ fp, FpOk X pins H b) → tn i s.heap → J.stop i H →
    wpAny (model P w) X.A (pyNext (.ref it)) (fun r s1 => r = none ∧ Inv X pins σ H s1) E s
  self : ∀ (A : Around) (i : Nat) (s : Shared) (Q : Value → Shared → Prop) (E : Value → Shared → Prop), tn i s.heap → Q (.ref it) s → wpAny (model P w) A (pyIter (.ref it)) Q E s
abbrev TI := St → Hp → (It → Hp → Prop) → Prop
/-- an iterator has come -/
def PIE (X : Cx) (pins : List (Addr × Obj)) (σ : St) (tg : Expr) (R : It → Hp → Prop) (itv : Value) (s2 : Shared) : Prop :=
  ∃ (it : Addr) (fp : List Addr) (tn : Nat → Heap → Prop) (J : It) (H' : Hp), itv = .ref it ∧ Inv X pins σ H' s2 ∧ Turn X.prog X.w X.K tg J fp it tn ∧ tn 0 s2.heap ∧ (∀ b ∈ fp, FpOk X pins H' b) ∧ R J H'
def PI (X : Cx) (tg iter : Expr) (wi : TI) : Prop :=
  ∀ (pins : List (Addr × Obj)) (s : Shared) (σ : St) (H : Hp) (R : It → Hp → Prop), Inv X pins σ H s → wi σ H R →
    wpAny (model X.prog X.w) X.A (eval iter X.env) (fun v s1 => wpAny (model X.prog X.w) X.A (pyIter v) (PIE X pins σ tg R) X.xe s1) X.xe s

/-- the step ahead of the store is nothing for an iterator that keeps no tuple -/
theorem go_of {M : Model} {A : Around} {E : Value → Shared → Prop} {s : Shared} {tg : Expr} {it : Addr} {u : Value} {o : Obj} {n : String} {vs : Array Value} {Q : Unit → Shared → Prop} (ho : s.heap.get? it = some o) (hc : o.cls = .type n) (hd : o.data = .fields vs)
    (hn : ["enumerate", "zip", "dict_itemiterator", "dict_reverseitemiterator", "odict_iterator", "itertools.zip_longest", "itertools.pairwise"].contains n = false) (hQ : Q () s) : wpAny M A (letOwnedTupleGo tg (.ref it) u) Q E s := by
  unfold letOwnedTupleGo
  cases tg <;> first
    | exact wpAny_pure hQ
    | (cases u <;> first
        | exact wpAny_pure hQ
        | (refine wpAny_bind (wpAny_load ho ?_)
           rw [hc, hd]
           show wpAny M A (if (["enumerate", "zip", "dict_itemiterator", "dict_reverseitemiterator", "odict_iterator", "itertools.zip_longest", "itertools.pairwise"].contains n && vs[0]? == some (rawInt _)) = true then _ else _) Q E s
           rw [if_neg (by intro h; rw [hn, Bool.false_and] at h; cases h)]
           exact wpAny_pure hQ))

/-- the list at a, as it stands at each turn (a loop may append to it) -/
def Itl (K : PySem.W.Frag) (a : Addr) : It :=
  ⟨fun i H => ∃ xs x, SqL K H a xs ∧ xs[i]? = some x, fun i H x H' => H' = H ∧ ∀ xs, SqL K H a xs → xs[i]? = some x, fun i H => ∃ xs, SqL K H a xs ∧ xs.length ≤ i⟩
def Itt (K : PySem.W.Frag) (a : Addr) : It :=
  ⟨fun i H => ∃ xs x, SqT K H a xs ∧ xs[i]? = some x, fun i H x H' => H' = H ∧ ∀ xs, SqT K H a xs → xs[i]? = some x, fun i H => ∃ xs, SqT K H a xs ∧ xs.length ≤ i⟩
/-- lo, lo + 1, .. (n of them) -/
def Itr (lo : Int) (n : Nat) : It := ⟨fun i _ => i < n, fun i H x H' => H' = H ∧ x = .int (lo + i), fun i _ => n ≤ i⟩
theorem turn_list {P : Program} {w : World} {K : PySem.W.Frag} {tg : Expr} (a it : Addr) : Turn P w K tg (Itl K a) [it] it (fun i h => h.IsListIter it a i) where
  mem := by simp
  obj := fun i h st b hb => by
    have e : b = it := by simpa using hb
    subst e
    obtain ⟨o, e, c, d⟩ := st
    exact ⟨o, e, fun v z => by rw [d] at z; cases z⟩
  keep := fun i h h' st k => st.at fun o e => k it (by simp) o e
  item := by
    intro X hP hw hK hc i pins s σ H E I hf st hg
    subst hP hw hK
    obtain ⟨xs, x, hq, hx⟩ := hg
    obtain ⟨its, rv, p, hz⟩ := I.list hq
    obtain ⟨u, hu, ru⟩ := rv.get hx
    obtain ⟨f0, f1, f2, f3, f4, f5⟩ := hf it (by simp)
    refine wpAny_pyNext_list_item st p.isList (x := u) (by simpa using hu) fun h' st' sb => ?_
    have I1 : Inv X pins σ H { s with heap := h' } := I.turned (t' := s.toks) (fun b o hb e => (sb.2 b hb).trans e) f0 f1 f3 f4 f5
    obtain ⟨o, e, c, d⟩ := id st'
    exact ⟨u, rfl, go_of (s := { s with heap := h' }) e c d (by decide) ⟨x, H, I1, ru, ⟨rfl, fun ys hy => by rw [I.list_inj hy hq]; exact hx⟩, st', fun b hb => (hf b hb).1⟩⟩
  done := by
    intro X hP hw hK hc i pins s σ H E I hf st hg
    subst hP hw hK
    obtain ⟨xs, hq, hx⟩ := hg
    obtain ⟨its, rv, p, hz⟩ := I.list hq
    obtain ⟨f0, f1, f2, f3, f4, f5⟩ := hf it (by simp)
    have hl := rv.length
    exact wpAny_pyNext_list_end (I.ok.hd hc) st p.isList (by simp; omega) fun h' eb => ⟨rfl, I.turned (t' := s.toks) (fun b o hb e => eb b o hb e) f0 f1 f3 f4 f5⟩
  self := fun _ _ _ _ _ st h => wpAny_pyIter_listiter st h
theorem turn_tuple {P : Program} {w : World} {K : PySem.W.Frag} {tg : Expr} (a it : Addr) : Turn P w K tg (Itt K a) [it] it (fun i h => h.IsTupleIter it a i) where
  mem := by simp
  obj := fun i h st b hb => by
    have e : b = it := by simpa using hb
    subst e
    obtain ⟨o, e, c, d⟩ := st
    exact ⟨o, e, fun v z => by rw [d] at z; cases z⟩
  keep := fun i h h' st k => st.at fun o e => k it (by simp) o e
  item := by
    intro X hP hw hK hc i pins s σ H E I hf st hg
    subst hP hw hK
    obtain ⟨xs, x, hq, hx⟩ := hg
    obtain ⟨its, rv, p, hz⟩ := I.tuple hq
    obtain ⟨u, hu, ru⟩ := rv.get hx
    obtain ⟨f0, f1, f2, f3, f4, f5⟩ := hf it (by simp)
    refine wpAny_pyNext_tuple_item st (show s.heap.IsTuple a its.toArray from p) (x := u) (by simpa using hu) fun h' st' sb => ?_
    have I1 : Inv X pins σ H { s with heap := h' } := I.turned (t' := s.toks) (fun b o hb e => (sb.2 b hb).trans e) f0 f1 f3 f4 f5
    obtain ⟨o, e, c, d⟩ := id st'
    exact ⟨u, rfl, go_of (s := { s with heap := h' }) e c d (by decide) ⟨x, H, I1, ru, ⟨rfl, fun ys hy => by rw [I.tuple_inj hy hq]; exact hx⟩, st', fun b hb => (hf b hb).1⟩⟩
  done := by
    intro X hP hw hK hc i pins s σ H E I hf st hg
    subst hP hw hK
    obtain ⟨xs, hq, hx⟩ := hg
    obtain ⟨its, rv, p, hz⟩ := I.tuple hq
    obtain ⟨f0, f1, f2, f3, f4, f5⟩ := hf it (by simp)
    have hl := rv.length
    exact wpAny_pyNext_tuple_end (I.ok.hd hc) st (show s.heap.IsTuple a its.toArray from p) (by simp; omega) fun h' eb => ⟨rfl, I.turned (t' := s.toks) (fun b o hb e => eb b o hb e) f0 f1 f3 f4 f5⟩
  self := fun _ _ _ _ _ st h => wpAny_pyIter_tupleiter st h
theorem turn_range {P : Program} {w : World} {K : PySem.W.Frag} {tg : Expr} (it : Addr) (lo : Int) (n : Nat) : Turn P w K tg (Itr lo n) [it] it (fun i h => IsRangeIter h it (lo + (i : Nat) * 1) ((n : Int) - (i : Nat)) 1) where
  mem := by simp
  obj := fun i h st b hb => by
    have e : b = it := by simpa using hb
    subst e
    exact ⟨_, st, fun v z => by
      have z' : Data.fields _ = Data.cell v := z
      cases z'⟩
  keep := fun i h h' st k => k it (by simp) _ st
  item := by
    intro X hP hw hK hc i pins s σ H E I hf st hg
    subst hP hw hK
    obtain ⟨f0, f1, f2, f3, f4, f5⟩ := hf it (by simp)
    have W := Walks.range (prog := X.prog) (w := X.w) (I.ok.hd hc) it lo 1 n
    refine W.item i s _ _ hg st fun v h' tk hv st' kk => ?_
    obtain ⟨t, rfl⟩ := hv
    have I1 : Inv X pins σ H { s with heap := h', toks := tk } := I.turned (fun b o hb e => kk b o (by simpa using hb) e) f0 f1 f3 f4 f5
    refine ⟨_, rfl, go_of (s := { s with heap := h', toks := tk }) (n := "range_iterator") st' rfl rfl (by decide) ⟨.int (lo + i), H, I1, ⟨t, ?_⟩, ⟨rfl, rfl⟩, st', fun b hb => (hf b hb).1⟩⟩
    rw [Int.mul_one]
  done := by
    intro X hP hw hK hc i pins s σ H E I hf st hg
    subst hP hw hK
    obtain ⟨f0, f1, f2, f3, f4, f5⟩ := hf it (by simp)
    exact wpAny_pyNext_range_end (I.ok.hd hc) st (by have : n ≤ i := hg; omega) fun h' eb => ⟨rfl, I.turned (t' := s.toks) (fun b o hb e => eb b o hb e) f0 f1 f3 f4 f5⟩
  self := fun _ _ _ _ _ st h => wpAny_pyIter_rangeiter st h
end L2

namespace L2
open PySem PySem.Spec PyProof.Rows
section
variable {X : Cx} {tg : Expr}
def iList (K : PySem.W.Frag) (tl : TE) : TI := fun σ H R => tl σ H fun x H1 => ∃ a, x = .ref a ∧ (∃ xs, SqL K H1 a xs) ∧ R (Itl K a) H1
def iTup (K : PySem.W.Frag) (tl : TE) : TI := fun σ H R => tl σ H fun x H1 => ∃ a, x = .ref a ∧ (∃ xs, SqT K H1 a xs) ∧ R (Itt K a) H1
theorem pi_list {l : Expr} {tl : TE} (hl : PE X l tl) : PI X tg l (iList X.K tl) := by
  intro pins s σ H R I h
  refine thn (hl pins s σ H _ I h) fun v s1 ⟨x, H1, I1, r1, q1⟩ => ?_
  obtain ⟨a, e, ⟨xs, hq⟩, q⟩ := q1
  subst e
  cases r1
  obtain ⟨its, rv, p, hz⟩ := I1.list hq
  refine wpAny_pyIter_list p.isList ?_
  refine ⟨s1.heap.objs.size, [s1.heap.objs.size], _, _, H1, rfl, I1.kept (t' := s1.toks) fun b o e => Heap.get?_push_of_some _ e, turn_list a _, ⟨_, Heap.get?_push_size _ rfl, rfl, rfl⟩, fun b hb => ?_, q⟩
  have e : b = s1.heap.objs.size := by simpa using hb
  subst e
  exact I1.fpOk (Nat.le_refl _) (I1.hok.fresh (Nat.le_refl _))
theorem pi_tup {l : Expr} {tl : TE} (hl : PE X l tl) : PI X tg l (iTup X.K tl) := by
  intro pins s σ H R I h
  refine thn (hl pins s σ H _ I h) fun v s1 ⟨x, H1, I1, r1, q1⟩ => ?_
  obtain ⟨a, e, ⟨xs, hq⟩, q⟩ := q1
  subst e
  cases r1
  obtain ⟨its, rv, p, hz⟩ := I1.tuple hq
  refine wpAny_pyIter_tuple (show s1.heap.IsTuple a its.toArray from p) ?_
  refine ⟨s1.heap.objs.size, [s1.heap.objs.size], _, _, H1, rfl, I1.kept (t' := s1.toks) fun b o e => Heap.get?_push_of_some _ e, turn_tuple a _, ⟨_, Heap.get?_push_size _ rfl, rfl, rfl⟩, fun b hb => ?_, q⟩
  have e : b = s1.heap.objs.size := by simpa using hb
  subst e
  exact I1.fpOk (Nat.le_refl _) (I1.hok.fresh (Nat.le_refl _))
/-- a range object just made, walked -/
theorem range_it {pins : List (Addr × Obj)} {σ : St} {H : Hp} {s : Shared} {R : It → Hp → Prop} {E : Value → Shared → Prop} {lo hi : Int} {t u v : Tok} {tk : Nat} (I : Inv X pins σ H s) (h1 : -(2 ^ 62) ≤ lo) (h2 : lo < 2 ^ 62) (h3 : -(2 ^ 62) ≤ hi) (h4 : hi < 2 ^ 62)
    (q : R (Itr lo (hi - lo).toNat) H) : wpAny (model X.prog X.w) X.A (pyIter (.ref s.heap.objs.size)) (PIE X pins σ tg R) E { s with heap := s.heap.push { cls := .type "range", data := .fields #[.int lo t, .int hi u, .int 1 v] }, toks := tk } := by
  refine wpAny_pyIter_range (IsRange.new ..) (small_one h1 h2 h3 h4) ?_
  have I1 : Inv X pins σ H { s with heap := s.heap.push { cls := .type "range", data := .fields #[.int lo t, .int hi u, .int 1 v] }, toks := tk } := I.kept fun b o e => Heap.get?_push_of_some _ e
  refine ⟨(s.heap.push { cls := .type "range", data := .fields #[.int lo t, .int hi u, .int 1 v] }).objs.size, [(s.heap.push { cls := .type "range", data := .fields #[.int lo t, .int hi u, .int 1 v] }).objs.size], _, _, H, rfl,
    I1.kept (t' := tk) fun b o e => Heap.get?_push_of_some _ e, turn_range _ lo (hi - lo).toNat, ?_, fun b hb => ?_, q⟩
  · have e1 : lo + ((0 : Nat) : Int) * 1 = lo := by simp
    have e2 : (((hi - lo).toNat : Nat) : Int) - ((0 : Nat) : Int) = Builtin.Range.rangeSize lo hi 1 := by rw [rangeSize_one]; split <;> omega
    show IsRangeIter _ _ (lo + ((0 : Nat) : Int) * 1) ((((hi - lo).toNat : Nat) : Int) - ((0 : Nat) : Int)) 1
    rw [e1, e2]
    exact Heap.get?_push_size _ rfl
  · have e : b = (s.heap.push { cls := .type "range", data := .fields #[.int lo t, .int hi u, .int 1 v] }).objs.size := by simpa using hb
    subst e
    exact I1.fpOk (Nat.le_refl _) (I1.hok.fresh (Nat.le_refl _))
def iRng1 (ta : TA) : TI := fun σ H R => ta σ H fun vs H1 => ∃ j : Int, vs = [.int j] ∧ -(2 ^ 62) ≤ j ∧ j < 2 ^ 62 ∧ R (Itr 0 j.toNat) H1
theorem pi_range1 {a : Expr} {ta : TA} {p pos : Pos} (hg : Gl X "range") (hm : X.mg "range" = none) (ha : PA X [a] ta) (hs : starEach [a] X.env = [(false, eval a X.env)] := by rfl) : PI X tg (.Call (.Name "range" p) [a] [] pos) (iRng1 ta) := by
  intro pins s σ H R I h
  refine Call_ (ld_blt I hg hm boot_range (PyProof.Rows.callWith_type1 (thn (ha pos pins s σ H _ I h) fun us s1 ⟨vs, H1, I1, r1, q1⟩ => ?_) hs rfl))
  obtain ⟨j, e, q1, q2, q⟩ := q1
  subst e
  cases r1 with
  | cons r rr =>
    cases rr
    obtain ⟨t, rfl⟩ := r
    exact call_range_1 (range_it I1 (by omega) (by omega) q1 q2 (by simpa using q))
/-! ### for -/
/-- W: the invariant by the turn and a measure; N: what the body is to reach -/
def tFor (wi : TI) (g : TG) (tb : TS) : TS := fun D σ H => wi σ H fun J H1 => ∃ W : Nat → Nat → St → Hp → Prop, (∃ m, W 0 m σ H1) ∧ ∀ i m σ H, W i m σ H →
  (J.stop i H ∧ D.nx σ H) ∨ (J.go i H ∧ ∃ N : St → Hp → Prop, (∀ σ' H', N σ' H' → ∃ m', m' < m ∧ W (i + 1) m' σ' H') ∧ ∀ x H', J.yld i H x H' → g x σ H' fun σ2 H2 => tb { D with nx := N, ct := N, bk := D.nx } σ2 H2)
/-- the records at fp as they stand -/
def pinsAt (fp : List Addr) (h : Heap) : List (Addr × Obj) := fp.filterMap fun b => (h.get? b).map fun o => (b, o)
theorem mem_pinsAt {fp : List Addr} {h : Heap} {b : Addr} {o : Obj} (hb : b ∈ fp) (e : h.get? b = some o) : (b, o) ∈ pinsAt fp h := List.mem_filterMap.mpr ⟨b, hb, by rw [e]; rfl⟩
theorem of_pinsAt {fp : List Addr} {h : Heap} {p : Addr × Obj} (hp : p ∈ pinsAt fp h) : p.1 ∈ fp ∧ h.get? p.1 = some p.2 := by
  obtain ⟨b, hb, e⟩ := List.mem_filterMap.mp hp
  cases q : h.get? b with
  | none => rw [q] at e; cases e
  | some o =>
    rw [q] at e
    have e' : (b, o) = p := Option.some.inj e
    subst e'
    exact ⟨hb, q⟩
theorem Inv.pinned {pins : List (Addr × Obj)} {σ : St} {H : Hp} {s : Shared} {fp : List Addr} (I : Inv X pins σ H s) (hf : ∀ b ∈ fp, FpOk X pins H b) (ho : ∀ b ∈ fp, ∃ o, s.heap.get? b = some o ∧ ∀ v, o.data ≠ .cell v) : Inv X (pins ++ pinsAt fp s.heap) σ H s :=
  I.pins_of fun p hp => (List.mem_append.mp hp).elim (fun z => I.pin p (List.mem_append_right _ z)) fun z => by
    obtain ⟨hb, e⟩ := of_pinsAt z
    obtain ⟨f0, f1, f2, _⟩ := hf p.1 hb
    obtain ⟨o, e', d⟩ := ho p.1 hb
    rw [e] at e'; cases e'
    exact ⟨e, f0, f1, f2, d⟩
theorem Inv.unpinned {pins pl : List (Addr × Obj)} {σ : St} {H : Hp} {s : Shared} (I : Inv X (pins ++ pl) σ H s) : Inv X pins σ H s := I.pins_of fun p hp => I.pin p (List.mem_append_right _ (List.mem_append_left _ hp))
theorem ps_for {iter : Expr} {body : List Stmt} {wi : TI} {g : TG} {tb : TS} {pos : Pos} (hp : PassesOwn (model X.prog X.w) X.A X.env X.xe) (hc : X.calm = true) (hi : PI X tg iter wi) (hg : PG X tg g) (hb : PSs X body tb)
    (hs : ∀ x, foldedSetIterable iter X.env x = pure x := by intro _; rfl) : PS X (.For tg iter body [] pos) (tFor wi g tb) := by
  intro pins s σ H D I h
  refine wpAny_For (thn (hi pins s σ H _ I h) fun v s1 h1 => thn h1 fun itv s2 h2 => ?_) hs
  obtain ⟨it, fp, tn, J, H2, e, I2, T, st2, f2, W, ⟨m0, w0⟩, turn⟩ := h2
  subst e
  -- what stays true of the iterator's objects through the loop
  have stat : ∀ {H' : Hp}, (∀ b ∈ fp, H' b = none) → ∀ b ∈ fp, FpOk X pins H' b := fun hn b hb => ⟨hn b hb, (f2 b hb).2⟩
  refine codeAny_forLoop_any (fun n s' => ∃ i σ' H', Inv X pins σ' H' s' ∧ tn i s'.heap ∧ (∀ b ∈ fp, H' b = none) ∧ W i n σ' H') ?_ m0 ⟨0, σ, H2, I2, st2, fun b hb => (f2 b hb).1, w0⟩
  rintro n s3 ⟨i, σ3, H3, I3, st3, fr3, w3⟩
  rcases turn i n σ3 H3 w3 with ⟨stop, qn⟩ | ⟨go, N, hN, step⟩
  · refine wpAny_passesOwn hp (thn (T.done X rfl rfl rfl hc i pins s3 σ3 H3 X.xe I3 (stat fr3) st3 stop) fun r s4 ⟨hr, I4⟩ => ?_)
    subst hr
    exact wpAny_execs_nil ⟨σ3, H3, I4, qn⟩
  · refine wpAny_passesOwn hp (thn (T.item X rfl rfl rfl hc i pins s3 σ3 H3 X.xe I3 (stat fr3) st3 go) fun r s4 ⟨u, hr, h4⟩ => ?_)
    subst hr
    refine wpAny_passesOwn hp (thn h4 fun _ s5 ⟨x, H5, I5, r5, y5, st5, fr5⟩ => ?_)
    have I5' := I5.pinned (stat fr5) (T.obj _ _ st5)
    refine wpAny_passesOwn hp (thn (hg _ s5 σ3 H5 x u _ I5' r5 (step x H5 y5)) fun _ s6 ⟨σ6, H6, I6, q6⟩ => ?_)
    refine wpAny_passesOwn hp (thn (hb _ s6 σ6 H6 _ I6 q6) fun f s7 q7 => ?_)
    have again : ∀ {σ7 : St} {H7 : Hp}, Inv X (pins ++ pinsAt fp s5.heap) σ7 H7 s7 → N σ7 H7 → ∃ m, m < n ∧ ∃ i σ' H', Inv X pins σ' H' s7 ∧ tn i s7.heap ∧ (∀ b ∈ fp, H' b = none) ∧ W i m σ' H' := fun {σ7 H7} I7 n7 => by
      obtain ⟨m', hm, w7⟩ := hN σ7 H7 n7
      refine ⟨m', hm, i + 1, σ7, H7, I7.unpinned, T.keep _ _ _ st5 fun b hb o e => (I7.pin (b, o) (List.mem_append_right _ (List.mem_append_right _ (mem_pinsAt hb e)))).1, fun b hb => ?_, w7⟩
      obtain ⟨o, e, d⟩ := T.obj _ _ st5 b hb
      exact (I7.pin (b, o) (List.mem_append_right _ (List.mem_append_right _ (mem_pinsAt hb e)))).2.1
    cases f with
    | next => obtain ⟨σ7, H7, I7, n7⟩ := q7; exact again I7 n7
    | cont => obtain ⟨σ7, H7, I7, n7⟩ := q7; exact again I7 n7
    | brk => obtain ⟨σ7, H7, I7, q7⟩ := q7; exact ⟨σ7, H7, I7.unpinned, q7⟩
    | ret v => obtain ⟨x7, σ7, H7, I7, r7, q7⟩ := q7; exact ⟨x7, σ7, H7, I7.unpinned, r7, q7⟩
end

/-! ### the forms one uses -/
end L2

namespace L2
open PySem PySem.Spec PyProof.Rows

abbrev R2 := V → V → Hp → VK → Prop
/-- a two-place operation on values: f is binaryOp op, inplaceOp op or compareOp op -/
def OpR (X : Cx) (f : Value → Value → Sem Value) (r : R2) : Prop :=
  ∀ (pins : List (Addr × Obj)) (s : Shared) (σ : St) (H : Hp) (x y : V) (v u : Value) (Q : VK), Inv X pins σ H s → RelV x v → RelV y u → r x y H Q →
    wpAny (model X.prog X.w) X.A (f v u) (EP X pins σ Q) X.xe s
/-- a one-place operation -/
def UnR (X : Cx) (f : Value → Sem Value) (r : V → Hp → VK → Prop) : Prop :=
  ∀ (pins : List (Addr × Obj)) (s : Shared) (σ : St) (H : Hp) (x : V) (v : Value) (Q : VK), Inv X pins σ H s → RelV x v → r x H Q →
    wpAny (model X.prog X.w) X.A (f v) (EP X pins σ Q) X.xe s
/-- a call of a value that is known (a builtin, a type) with values -/
def CallR (X : Cx) (f : Value) (r : List V → Hp → VK → Prop) : Prop :=
  ∀ (pins : List (Addr × Obj)) (s : Shared) (σ : St) (H : Hp) (xs : List V) (us : List Value) (Q : VK), Inv X pins σ H s → Vals xs us → r xs H Q →
    wpAny (model X.prog X.w) X.A (call f us) (EP X pins σ Q) X.xe s
/-- a value's truth -/
def TruR (X : Cx) (r : V → Hp → (Bool → Hp → Prop) → Prop) : Prop :=
  ∀ (pins : List (Addr × Obj)) (s : Shared) (σ : St) (H : Hp) (x : V) (v : Value) (Q : Bool → Hp → Prop), Inv X pins σ H s → RelV x v → r x H Q →
    wpAny (model X.prog X.w) X.A (truthy v) (TP X pins σ Q) X.xe s

def tOp (r : R2) (ta tb : TE) : TE := fun σ H Q => ta σ H fun x H1 => tb σ H1 fun y H2 => r x y H2 Q
def tUn (r : V → Hp → VK → Prop) (ta : TE) : TE := fun σ H Q => ta σ H fun x H1 => r x H1 Q
/-- ints in, under C, and a value out -/
def rI (C : Int → Int → Prop) (g : Int → Int → V) : R2 := fun x y H Q => ∃ i j, x = .int i ∧ y = .int j ∧ C i j ∧ Q (g i j) H
def rI0 (g : Int → Int → V) : R2 := fun x y H Q => ∃ i j, x = .int i ∧ y = .int j ∧ Q (g i j) H
def rU (g : Int → V) : V → Hp → VK → Prop := fun x H Q => ∃ i, x = .int i ∧ Q (g i) H

section
variable {X : Cx} {a b c : Expr} {ta tb tc : TE} {pos : Pos}

theorem binT (ha : PE X a ta) (hb : PE X b tb) {pins : List (Addr × Obj)} {s : Shared} {σ : St} {H : Hp} {R : V → V → Hp → Prop} (I : Inv X pins σ H s)
    (h : ta σ H fun x H1 => tb σ H1 fun y H2 => R x y H2) {Q : Value → Shared → Prop} {f : Value → Value → Sem Value}
    (hf : ∀ v u s2 x y H2, Inv X pins σ H2 s2 → RelV x v → RelV y u → R x y H2 → wpAny (model X.prog X.w) X.A (f v u) Q X.xe s2) :
    wpAny (model X.prog X.w) X.A (eval a X.env) (fun v s₁ => wpAny (model X.prog X.w) X.A (eval b X.env) (fun u s₂ => wpAny (model X.prog X.w) X.A (f v u) Q X.xe s₂) X.xe s₁) X.xe s := by
  refine thn (ha pins s σ H _ I h) fun v s1 ⟨x, H1, I1, r1, q1⟩ => ?_
  refine thn (hb pins s1 σ H1 _ I1 q1) fun u s2 ⟨y, H2, I2, r2, q2⟩ => ?_
  exact hf v u s2 x y H2 I2 r1 r2 q2

theorem pe_op {op : Operator} {r : R2} (ho : OpR X (binaryOp op) r) (ha : PE X a ta) (hb : PE X b tb) : PE X (.BinOp a op b pos) (tOp r ta tb) := by
  intro pins s σ H Q I h
  exact wpAny_BinOp (binT ha hb I h fun v u s2 x y H2 I2 rx ry q => ho pins s2 σ H2 x y v u Q I2 rx ry q)
theorem pe_un {op : UnaryOp} {r : V → Hp → VK → Prop} (ho : UnR X (unaryOp op) r) (ha : PE X a ta) : PE X (.UnaryOp op a pos) (tUn r ta) := by
  intro pins s σ H Q I h
  exact UnaryOp_ (thn (ha pins s σ H _ I h) fun v s1 ⟨x, H1, I1, r1, q1⟩ => ho pins s1 σ H1 x v Q I1 r1 q1)
/-! ### ints -/
theorem opI {f : Value → Value → Sem Value} {C : Int → Int → Prop} {g : Int → Int → Int}
    (rule : ∀ (i j : Int) (t u : Tok) (s : Shared) (Q : Value → Shared → Prop) (E : Value → Shared → Prop), C i j → Q (.int (g i j) s.toks) { s with toks := s.toks + 1 } → wpAny (model X.prog X.w) X.A (f (.int i t) (.int j u)) Q E s) :
    OpR X f (rI C fun i j => .int (g i j)) := by
  intro pins s σ H x y v u Q I rx ry h
  obtain ⟨i, j, rfl, rfl, hc, q⟩ := h
  obtain ⟨t, rfl⟩ := rx
  obtain ⟨t', rfl⟩ := ry
  exact rule i j t t' s _ _ hc ⟨.int (g i j), H, I.tok _, ⟨_, rfl⟩, q⟩
theorem opI0 {f : Value → Value → Sem Value} {g : Int → Int → Int}
    (rule : ∀ (i j : Int) (t u : Tok) (s : Shared) (Q : Value → Shared → Prop) (E : Value → Shared → Prop), Q (.int (g i j) s.toks) { s with toks := s.toks + 1 } → wpAny (model X.prog X.w) X.A (f (.int i t) (.int j u)) Q E s) :
    OpR X f (rI0 fun i j => .int (g i j)) := by
  intro pins s σ H x y v u Q I rx ry h
  obtain ⟨i, j, rfl, rfl, q⟩ := h
  obtain ⟨t, rfl⟩ := rx
  obtain ⟨t', rfl⟩ := ry
  exact rule i j t t' s _ _ ⟨.int (g i j), H, I.tok _, ⟨_, rfl⟩, q⟩
theorem opB0 {f : Value → Value → Sem Value} {g : Int → Int → Bool}
    (rule : ∀ (i j : Int) (t u : Tok) (s : Shared) (Q : Value → Shared → Prop) (E : Value → Shared → Prop), Q (.bool (g i j)) s → wpAny (model X.prog X.w) X.A (f (.int i t) (.int j u)) Q E s) :
    OpR X f (rI0 fun i j => .bl (g i j)) := by
  intro pins s σ H x y v u Q I rx ry h
  obtain ⟨i, j, rfl, rfl, q⟩ := h
  obtain ⟨t, rfl⟩ := rx
  obtain ⟨t', rfl⟩ := ry
  exact rule i j t t' s _ _ ⟨.bl (g i j), H, I, rfl, q⟩

def CDiv (i j : Int) : Prop := 0 < j ∧ j < 1073741824
def CMul (i j : Int) : Prop := (-(2 ^ 64) < i ∧ i < 2 ^ 64) ∨ (-(2 ^ 64) < j ∧ j < 2 ^ 64)
theorem CMul.ok {i j : Int} (h : CMul i j) : IntMulOk i j := by
  rcases h with ⟨h1, h2⟩ | ⟨h1, h2⟩
  · exact .of_left (intBits_le_64 h1 h2)
  · exact .of_right (intBits_le_64 h1 h2)
theorem op_add : OpR X (binaryOp .Add) (rI0 fun i j => .int (i + j)) := opI0 fun _ _ _ _ _ _ _ q => add_int q
theorem op_sub : OpR X (binaryOp .Sub) (rI0 fun i j => .int (i - j)) := opI0 fun _ _ _ _ _ _ _ q => sub_int q
theorem op_mul : OpR X (binaryOp .Mult) (rI CMul fun i j => .int (i * j)) := opI fun _ _ _ _ _ _ _ hc q => mul_int q hc.ok
/-- // by a positive divisor -/
theorem op_fdiv : OpR X (binaryOp .FloorDiv) (rI CDiv fun i j => .int (i / j)) := opI fun i j _ _ _ _ _ hc q => by
  have h1 : (0 : Int) < j := hc.1
  have h2 : j < 1073741824 := hc.2
  exact floordiv_int (by omega) (by rw [Int.fdiv_eq_ediv_of_nonneg i (by omega)]; exact q) (.inl (PyProof.noPylong_small (by omega)))
/-- % by a positive divisor of any size -/
theorem op_mod : OpR X (binaryOp .Mod) (rI (fun _ j => 0 < j) fun i j => .int (i % j)) := opI fun i j _ _ _ _ _ hc q => by
  have h1 : (0 : Int) < j := hc
  exact mod_int' (by omega) (by rw [Int.fmod_eq_emod_of_nonneg i (by omega)]; exact q)
theorem unI {f : Value → Sem Value} {g : Int → Int}
    (rule : ∀ (i : Int) (t : Tok) (s : Shared) (Q : Value → Shared → Prop) (E : Value → Shared → Prop), Q (.int (g i) s.toks) { s with toks := s.toks + 1 } → wpAny (model X.prog X.w) X.A (f (.int i t)) Q E s) :
    UnR X f (rU fun i => .int (g i)) := by
  intro pins s σ H x v Q I rx h
  obtain ⟨i, rfl, q⟩ := h
  obtain ⟨t, rfl⟩ := rx
  exact rule i t s _ _ ⟨.int (g i), H, I.tok _, ⟨_, rfl⟩, q⟩
theorem un_neg : UnR X (unaryOp .USub) (rU fun i => .int (-i)) := unI fun _ _ _ _ _ q => neg_int q
/-! ### bools among ints: n += (a < b) -/
end

/-! ### comparisons -/
section
variable {X : Cx} {a b c : Expr} {ta tb tc : TE} {pos : Pos}
theorem fin_bl {pins : List (Addr × Obj)} {σ : St} {H : Hp} {s : Shared} {Q : VK} {k k' : Bool} (I : Inv X pins σ H s) (q : Q (.bl k) H) (e : k = k') : EP X pins σ Q (.bool k') s := by
  subst e
  exact ⟨.bl k, H, I, rfl, q⟩
theorem op_le : OpR X (compareOp .LtE) (rI0 fun i j => .bl (decide (i ≤ j))) := opB0 fun _ _ _ _ _ _ _ q => le_int q
theorem op_gt : OpR X (compareOp .Gt) (rI0 fun i j => .bl (decide (j < i))) := opB0 fun _ _ _ _ _ _ _ q => gt_int q
/-- the one string within the other -/
theorem op_in_str : OpR X (compareOp .In) (fun x y H Q => ∃ i j, x = .str i ∧ y = .str j ∧ Q (.bl (!(Builtin.Str.occurrences j i 0 j.length 1).isEmpty)) H) := by
  intro pins s σ H x y v u Q I rx ry h
  obtain ⟨i, j, rfl, rfl, q⟩ := h
  obtain ⟨t, rfl⟩ := rx
  obtain ⟨t', rfl⟩ := ry
  exact in_str (fin_bl I q rfl)

/-- two rules for one operation: by cases -/
theorem OpR.or {f : Value → Value → Sem Value} {r r' : R2} (h : OpR X f r) (h' : OpR X f r') : OpR X f (fun x y H Q => r x y H Q ∨ r' x y H Q) := by
  intro pins s σ H x y v u Q I rx ry q
  rcases q with q | q
  · exact h pins s σ H x y v u Q I rx ry q
  · exact h' pins s σ H x y v u Q I rx ry q

theorem nomark (b : Expr) {op : CmpOp} (h : op ≠ .In := by decide) (h2 : op ≠ .NotIn := by decide) : behindInMarks op b = false := by
  have e1 : (op == CmpOp.In) = false := by cases op <;> first | rfl | exact absurd rfl h
  have e2 : (op == CmpOp.NotIn) = false := by cases op <;> first | rfl | exact absurd rfl h2
  cases b <;> simp [behindInMarks, e1, e2]
/-- a comparison as a value; hm: nomark b, or (for in, not in) by with_unfolding_all rfl -/
theorem pe_cmpR {op : CmpOp} {r : R2} (ho : OpR X (compareOp op) r) (ha : PE X a ta) (hb : PE X b tb) (hm : behindInMarks op b = false) : PE X (.Compare a [op] [b] pos) (tOp r ta tb) := by
  intro pins s σ H Q I h
  exact wpAny_Compare1 (binT ha hb I h fun v u s2 x y H2 I2 rx ry q => ho pins s2 σ H2 x y v u Q I2 rx ry q) hm
/-- a reading of a value as a test -/
def tTest (t : TE) : TT := fun σ H Q => t σ H fun x H' => ∃ k, x = .bl k ∧ Q k H'
theorem pt_cmpR {op : CmpOp} {r : R2} (ho : OpR X (compareOp op) r) (ha : PE X a ta) (hb : PE X b tb) (hm : behindInMarks op b = false) : PT X (.Compare a [op] [b] pos) (tTest (tOp r ta tb)) := by
  intro pins s σ H Q I h
  refine wpAny_isTrue_Compare1 (thn (ha pins s σ H _ I h) fun v s1 ⟨x, H1, I1, r1, q1⟩ => thn (hb pins s1 σ H1 _ I1 q1) fun u s2 ⟨y, H2, I2, r2, q2⟩ =>
    thn (ho pins s2 σ H2 x y v u _ I2 r1 r2 q2) fun c s3 ⟨z, H3, I3, r3, k, e, q3⟩ => ?_) hm
  subst e
  cases r3
  exact wpAny_truthy_bool ⟨H3, I3, q3⟩
/-- a op1 b op2 c -/
def tChain (r r' : R2) (ta tb tc : TE) : TE := fun σ H Q => ta σ H fun x H1 => tb σ H1 fun y H2 => r x y H2 fun z H3 => ∃ k, z = .bl k ∧
  (if k = true then tc σ H3 fun w' H4 => r' y w' H4 Q else Q (.bl false) H3)
theorem pt_chain {op op' : CmpOp} {r r' : R2} (ho : OpR X (compareOp op) r) (ho' : OpR X (compareOp op') r') (ha : PE X a ta) (hb : PE X b tb) (hc : PE X c tc)
    (hm : lastMarks [op, op'] [b, c] = false := by with_unfolding_all rfl) : PT X (.Compare a [op, op'] [b, c] pos) (tTest (tChain r r' ta tb tc)) := by
  intro pins s σ H Q I h
  refine isTrue_chain (thn (ha pins s σ H _ I h) fun v s1 ⟨x, H1, I1, r1, q1⟩ => test_link (thn (hb pins s1 σ H1 _ I1 q1) fun u s2 ⟨y, H2, I2, r2, q2⟩ =>
    thn (ho pins s2 σ H2 x y v u _ I2 r1 r2 q2) fun d s3 ⟨z, H3, I3, r3, k, e, q3⟩ => ?_)) hm
  subst e
  cases r3
  refine wpAny_truthy_bool ?_
  cases k with
  | false =>
    obtain ⟨k', e', q'⟩ := q3
    cases e'
    exact ite_ff ⟨H3, I3, q'⟩
  | true =>
    refine ite_tt (test_last (thn (hc pins s3 σ H3 _ I3 q3) fun w' s4 ⟨z', H4, I4, r4, q4⟩ => thn (ho' pins s4 σ H4 y z' u w' _ I4 r2 r4 q4) fun d' s5 ⟨z2, H5, I5, r5, k2, e2, q5⟩ => ?_))
    subst e2
    cases r5
    exact wpAny_truthy_bool ⟨H5, I5, q5⟩

/-! ### truth -/
/-- a value's truth by the abstract heap -/
def TruV (K : PySem.W.Frag) (x : V) (H : Hp) (k : Bool) : Prop :=
  match x with
  | .non => k = false
  | .bl b => k = b
  | .int i => k = (i != 0)
  | .str y => y.length ≤ sizeLine ∧ k = ((y.length : Int) != 0)
  | .byt y => y.size ≤ sizeLine ∧ k = ((y.size : Int) != 0)
  | .ref p => (∃ xs, SqL K H p xs ∧ k = !xs.isEmpty) ∨ (∃ xs, SqT K H p xs ∧ k = !xs.isEmpty) ∨ ∃ kvs, H p = some (.dK kvs) ∧ k = !kvs.isEmpty
  | _ => False
theorem isEmpty_kv {κ : Type} {kvs : List (κ × V)} {vs : List (κ × Value)} (r : KV kvs vs) : (!vs.isEmpty) = !kvs.isEmpty := by
  cases r <;> rfl
theorem isEmpty_of {xs : List V} {its : List Value} (r : Vals xs its) : (!its.toArray.isEmpty) = !xs.isEmpty := by
  cases r <;> simp
theorem line63 : (sizeLine : Nat) < 2 ^ 63 := by rw [sizeLine_eq]; decide
theorem tru_ok : TruR X (fun x H Q => ∃ k, TruV X.K x H k ∧ Q k H) := by
  intro pins s σ H x v Q I rx h
  obtain ⟨k, e, q⟩ := h
  have hl := line63
  have hs : sizeLine = 16777216 := sizeLine_eq
  cases x with
  | non =>
    cases rx
    have e' : k = false := e
    subst e'
    exact truthy_none ⟨H, I, q⟩
  | bl b =>
    cases rx
    have e' : k = b := e
    subst e'
    exact wpAny_truthy_bool ⟨H, I, q⟩
  | int i =>
    obtain ⟨t, rfl⟩ := rx
    have e' : k = (i != 0) := e
    subst e'
    exact PySem.P.truthy_int ⟨H, I, q⟩
  | str y =>
    obtain ⟨t, rfl⟩ := rx
    obtain ⟨hy, e'⟩ : y.length ≤ sizeLine ∧ k = ((y.length : Int) != 0) := e
    subst e'
    exact PySem.P.truthy_str (by omega) ⟨H, I.tok _, q⟩
  | byt y =>
    obtain ⟨t, rfl⟩ := rx
    obtain ⟨hy, e'⟩ : y.size ≤ sizeLine ∧ k = ((y.size : Int) != 0) := e
    subst e'
    exact PySem.W.truthy_bytes (by omega) ⟨H, I.tok _, q⟩
  | ref p =>
    cases rx
    have e' : (∃ xs, SqL X.K H p xs ∧ k = !xs.isEmpty) ∨ (∃ xs, SqT X.K H p xs ∧ k = !xs.isEmpty) ∨ ∃ kvs, H p = some (.dK kvs) ∧ k = !kvs.isEmpty := e
    rcases e' with ⟨xs, hx, e'⟩ | ⟨xs, hx, e'⟩ | ⟨kvs, hx, e'⟩
    · subst e'
      obtain ⟨its, r, pl, hz⟩ := I.list hx
      have hlen := r.length
      exact wpAny_truthy_list pl.isList (by simp only [List.size_toArray]; omega) ⟨H, I.tok _, by rw [isEmpty_of r]; exact q⟩
    · subst e'
      obtain ⟨its, r, pl, hz⟩ := I.tuple hx
      have hlen := r.length
      exact truthy_tuple pl (by simp only [List.size_toArray]; omega) ⟨H, I.tok _, by rw [isEmpty_of r]; exact q⟩
    · subst e'
      obtain ⟨hz, hS, vs, r, m⟩ : kvs.length ≤ sizeLine ∧ (p == sysModules) = false ∧ ∃ vs, KV kvs vs ∧ s.heap.DictOf (mixKind X.prog X.w) p vs := I.hok p _ hx
      have hlen : kvs.length = vs.length := Paired.length r
      exact wpAny_truthy_dict hS m (by omega) ⟨H, I.tok _, by rw [isEmpty_kv r]; exact q⟩
  | _ => exact (show False from e).elim
/-- any expression whose test is its value's truth (a name, a call, a subscript, a field ..: he by fun _ => rfl) -/
theorem pt_truth (ha : PE X a ta) (he : ∀ whole, isTrue a X.env whole = (do let v ← whole; standAt a.pos; holding [v] (truthy v))) :
    PT X a (fun σ H Q => ta σ H fun x H' => ∃ k, TruV X.K x H' k ∧ Q k H') := by
  intro pins s σ H Q I h
  exact isTrue_plain (thn (ha pins s σ H _ I h) fun v s1 ⟨x, H1, I1, r1, q1⟩ => tru_ok pins s1 σ H1 x v Q I1 r1 q1) (he _)

/-! ### strs and bytes -/
/-! ### scalar builtins, by CallR -/
theorem vals1 {x : V} {us : List Value} (r : Vals [x] us) : ∃ u, us = [u] ∧ RelV x u := by
  cases r with
  | cons r1 r2 => cases r2; exact ⟨_, rfl, r1⟩
theorem vals2 {x y : V} {us : List Value} (r : Vals [x, y] us) : ∃ u w', us = [u, w'] ∧ RelV x u ∧ RelV y w' := by
  cases r with
  | cons r1 r2 =>
    cases r2 with
    | cons r3 r4 => cases r4; exact ⟨_, _, rfl, r1, r3⟩
end
end L2

namespace L2
open PySem PySem.Spec PyProof.Rows

/-! ### an instance, its attributes a map -/
structure ObjM (h : Heap) (x dx C : Addr) (mA : Str → Option Value) : Prop where
  obj : h.get? x = some (PySem.W.instObj C dx)
  ns : h.Ns1 dx mA
  ne : dx ≠ x

theorem lookIn_ns {h : Heap} {dx : Addr} {mA : Str → Option Value} (n : h.Ns1 dx mA) : ∃ od, h.get? dx = some od ∧ ∀ name, PySem.W.lookIn name od = some (mA name) := by
  obtain ⟨o, es, ep, ho, hd, hk, _, hm⟩ := n
  refine ⟨o, ho, fun name => ?_⟩
  have e := hm name
  unfold nsFind findBy at e
  rw [← Array.find?_toList] at e
  unfold PySem.W.lookIn
  rw [hd]
  dsimp only
  split
  · rename_i y q
    rw [q] at e
    exact congrArg some e
  · rename_i q
    rw [q] at e
    have a : es.toList.any (·.refKey) = false := by
      rw [List.any_eq_false]
      intro y hy
      obtain ⟨z, t, hkey⟩ := hk y (Array.mem_toList_iff.mp hy)
      simp [DictEntry.refKey, hkey]
    have a' : ¬ es.toList.any (·.refKey) = true := by rw [a]; exact Bool.false_ne_true
    rw [if_neg a']
    exact congrArg some e

theorem ObjM.look {h : Heap} {x dx C : Addr} {mA : Str → Option Value} (I : ObjM h x dx C mA) : ∃ od, PySem.W.InstAt h x (PySem.W.instObj C dx) C (some od) ∧ ∀ name, PySem.W.lookIn name od = some (mA name) :=
  let ⟨od, ho, hl⟩ := lookIn_ns I.ns
  ⟨od, ⟨I.obj, rfl, rfl, ho⟩, hl⟩

section
variable {prog : Program} {w : World} {A : Around} {E : Value → Shared → Prop} {s : Shared} {K : PySem.W.Frag} {x dx C f : Addr} {mA : Str → Option Value} {name : Str} {v : Value}

end

/-! ### the attributes as a list of pairs -/
section
variable {P : Program} {w : World} {H H' : Hp} {h h' : Heap} {a C dx : Addr} {fs fs' : List (Str × V)}
theorem ins_get (hok : HOk P w H h) (e : H a = some (.ins C dx fs)) : ∃ mA, ObjM h a dx C mA ∧ (∀ f, RelO (fs.lookup f) (mA f)) ∧ PySem.Within mA (fs.map (·.1)) ∧ fs.length ≤ 1000 ∧ H dx = some (.own a) := by
  obtain ⟨d, z, ne, ob, mA, n, r, q⟩ := (show ObjOk P w H h a (.ins C dx fs) from hok a _ e)
  exact ⟨mA, ⟨ob, n, ne⟩, r, q, z, d⟩
end

/-! ### what of the text a class must have -/
structure Cls (K : PySem.W.Frag) (C : Addr) : Prop where
  pg : PySem.W.plainGet K C Str.empty = true
  hd : PySem.W.hasDictIn K C = true
  po : PySem.W.plainOver K C = true
  sa : PySem.W.findIn K (.ref C) "__setattr__" = some (some (.builtin "object.__setattr__"))
theorem Cls.get {K : PySem.W.Frag} {C : Addr} (c : Cls K C) (f : Str) : PySem.W.plainGet K C f = true := c.pg
/-- a constant of the class -/
structure Con (K : PySem.W.Frag) (C : Addr) (f : Str) (v : V) (u : Value) : Prop where
  at_ : PySem.W.findIn K (.ref C) f = some (some u)
  rel : RelV v u
  get : PySem.W.specialIn K u "__get__" = some none
  cp : PySem.W.copiedNames.contains f = false
/-- a method: a plain def of the class or of one above it -/
structure Meth (K : PySem.W.Frag) (C : Addr) (m : Str) (f : Addr) : Prop where
  at_ : PySem.W.findIn K (.ref C) m = some (some (.ref f))
  fn : PySem.W.isFn K (.ref f) = true
  kp : PySem.W.keepIn K (.ref f) = true

section
variable {X : Cx} {pins : List (Addr × Obj)} {σ : St} {H : Hp} {s : Shared} {a C dx : Addr} {fs : List (Str × V)} {f : Str} {v : V} {A : Around} {E : Value → Shared → Prop}

/-- a new instance, tracked, without attributes -/
theorem Inv.made (I : Inv X pins σ H s) : Inv X pins σ (upd (upd H s.heap.objs.size (.own (s.heap.objs.size + 1))) (s.heap.objs.size + 1) (.ins C s.heap.objs.size []))
    { s with heap := (s.heap.push PySem.W.emptyDict).push (PySem.W.instObj C s.heap.objs.size) } := by
  have e1 : (s.heap.push PySem.W.emptyDict).get? s.heap.objs.size = some PySem.W.emptyDict := Heap.get?_push_size s.heap rfl
  have e2 : ((s.heap.push PySem.W.emptyDict).push (PySem.W.instObj C s.heap.objs.size)).get? (s.heap.objs.size + 1) = some (PySem.W.instObj C s.heap.objs.size) := by
    have := Heap.get?_push_size (s.heap.push PySem.W.emptyDict) (o := PySem.W.instObj C s.heap.objs.size) rfl
    rwa [Heap.size_push] at this
  have e3 : (s.heap.push PySem.W.emptyDict).Ns s.heap.objs.size (fun _ => none) := ⟨PySem.W.emptyDict, #[], _, e1, rfl, (fun e he => absurd he (by simp)), fun _ => rfl⟩
  have I1 := I.laid (a := s.heap.objs.size) (o := .own (s.heap.objs.size + 1)) (h' := s.heap.push PySem.W.emptyDict) (t' := s.toks) (fun b u q => Heap.get?_push_of_some _ q) (Nat.le_refl _) ⟨_, e1⟩
  refine I1.laid (a := s.heap.objs.size + 1) (o := .ins C s.heap.objs.size []) (t' := s.toks) (fun b u q => Heap.get?_push_of_some _ q) (Nat.le_of_eq (Heap.size_push _ _)) ?_
  have ne : s.heap.objs.size ≠ s.heap.objs.size + 1 := Nat.ne_of_lt (Nat.lt_succ_self _)
  refine ⟨by rw [upd_ne ne, upd_same], Nat.zero_le _, ne, e2, fun _ => none, (Heap.Ns1.of_empty e3).at fun o q => Heap.get?_push_of_some _ q, fun _ => True.intro, fun y hy => absurd rfl hy⟩

end

/-! ### readings and rules -/
section
variable {X : Cx} {o e value : Expr} {f : Str} {pos pos' tpos : Pos} {ta tv : TE}
end

/-! ### isinstance -/
section
variable {X : Cx} {pins : List (Addr × Obj)} {σ : St} {H : Hp} {s : Shared} {A : Around} {E : Value → Shared → Prop} {Q : Value → Shared → Prop} {c : Value} {b : Bool}
/-- the type of a value, as the fragment's deciders take it; for an instance its class -/
inductive TyOf (K : PySem.W.Frag) (H : Hp) : V → Value → Prop where
  | non : TyOf K H .non (.type "NoneType")
  | bl (x : Bool) : TyOf K H (.bl x) (.type "bool")
  | int (i : Int) : TyOf K H (.int i) (.type "int")
  | str (x : Str) : TyOf K H (.str x) (.type "str")
  | flt (x : UInt64) : TyOf K H (.flt x) (.type "float")
  | lst {a : Addr} {xs : List V} (e : H a = some (.lst xs)) : TyOf K H (.ref a) (.type "list")
  | frz {a : Addr} {o : Obj} {xs : List V} (e : H a = some (.frz o (.lst xs))) : TyOf K H (.ref a) (.type "list")
  | tup {a : Addr} {xs : List V} (e : H a = some (.tup xs)) : TyOf K H (.ref a) (.type "tuple")
  | dK {a : Addr} {kvs : List (Key × V)} (e : H a = some (.dK kvs)) : TyOf K H (.ref a) (.type "dict")
  | dT {a : Addr} {kvs : List (List Key × V)} (e : H a = some (.dT kvs)) : TyOf K H (.ref a) (.type "dict")
  | ins {a C dx : Addr} {fs : List (Str × V)} (e : H a = some (.ins C dx fs)) (cl : Cls K C) (ha : PySem.W.findIn K (.ref C) "__class__" = some (some (.builtin "object.__class__")))
      (hn : PySem.W.specialIn K (.builtin "object.__class__") "__get__" = some (some (.builtin "getset_descriptor.__get__"))) (htk : PySem.W.takesIn K (.builtin "object.__class__") = some true)
      (hm : PySem.W.mroIn K C (.type "object") = some true) : TyOf K H (.ref a) (.ref C)
/-- isinstance(x, c) for one class c, a built-in or an own one: kitOne's answer -/
theorem isinst_ok {x : V} {u t : Value} (I : Inv X pins σ H s) (rx : RelV x u) (ty : TyOf X.K H x t) (e : PySem.W.kitOne X.K t c = some b) (h : ∀ tk, Q (.bool b) { s with toks := tk }) :
    wpAny (model X.prog X.w) A (call (.builtin "isinstance") [u, c]) Q E s := by
  cases ty with
  | non => cases (show u = Value.none from rx); exact PySem.W.kia_one PySem.W.kitx_none I.kIn True.intro e (fun z => nomatch z) h
  | bl y => cases (show u = Value.bool y from rx); exact PySem.W.kia_one PySem.W.kitx_bool I.kIn True.intro e (fun z => nomatch z) h
  | int i => obtain ⟨t, q⟩ := (show ∃ t, u = Value.int i t from rx); cases q; exact PySem.W.kia_one PySem.W.kitx_int I.kIn True.intro e (fun z => nomatch z) h
  | str y => obtain ⟨t, q⟩ := (show ∃ t, u = Value.str y t from rx); cases q; exact PySem.W.kia_one PySem.W.kitx_str I.kIn True.intro e (fun z => nomatch z) h
  | flt y => obtain ⟨t, q⟩ := (show ∃ t, u = Value.float y t from rx); cases q; exact PySem.W.kia_one PySem.W.kitx_float I.kIn True.intro e (fun z => nomatch z) h
  | @lst a xs ea =>
    cases (show u = Value.ref a from rx)
    obtain ⟨_, _, n, _, h1⟩ := (show ObjOk X.prog X.w H s.heap a (.lst xs) from I.hok a _ ea)
    exact PySem.W.kia_one PySem.W.kitx_list I.kIn ⟨_, h1, rfl⟩ e (fun z => nomatch z) h
  | @frz a ob xs ea =>
    cases (show u = Value.ref a from rx)
    obtain ⟨_, _, _, n, _, h1⟩ := (show ObjOk X.prog X.w H s.heap a (.frz ob (.lst xs)) from I.hok a _ ea)
    exact PySem.W.kia_one PySem.W.kitx_list I.kIn ⟨_, h1, rfl⟩ e (fun z => nomatch z) h
  | @tup a xs ea =>
    cases (show u = Value.ref a from rx)
    obtain ⟨_, _, _, p⟩ := (show ObjOk X.prog X.w H s.heap a (.tup xs) from I.hok a _ ea)
    obtain ⟨o, h1, h2, _⟩ := p
    exact PySem.W.kia_one PySem.W.kitx_tuple I.kIn ⟨o, h1, h2⟩ e (fun z => nomatch z) h
  | @dK a kvs ea =>
    cases (show u = Value.ref a from rx)
    obtain ⟨_, _, vs, _, p⟩ := (show ObjOk X.prog X.w H s.heap a (.dK kvs) from I.hok a _ ea)
    obtain ⟨o, es, ep, h1, h2, _⟩ := p
    exact PySem.W.kia_one PySem.W.kitx_dict I.kIn ⟨o, h1, h2.1⟩ e (fun z => nomatch z) h
  | @dT a kvs ea =>
    cases (show u = Value.ref a from rx)
    obtain ⟨_, _, xs, _, o, es, ep, h1, h2, _⟩ := (show ObjOk X.prog X.w H s.heap a (.dT kvs) from I.hok a _ ea)
    exact PySem.W.kia_one PySem.W.kitx_dict I.kIn ⟨o, h1, h2.1⟩ e (fun z => nomatch z) h
  | @ins a C dx fs ea cl ha hn htk hm =>
    cases (show u = Value.ref a from rx)
    obtain ⟨mA, O, _⟩ := ins_get I.hok ea
    obtain ⟨od, J, _⟩ := O.look
    exact PySem.W.kia_one (PySem.W.kitx_own (cl.get _) cl.hd ha hn htk hm) I.kIn J e (fun z => nomatch z) h
end
end L2

namespace L2
open PySem PySem.Spec PyProof.Rows

/-! ### room -/
structure Room (k : Nat) (A : Around) : Prop where
  hd : A.handled = none
  dp : A.depth + 3 * k + 5 < recursionLimit
  un : A.units + 16 * k + 200 < cLine
theorem Room.mono {j k : Nat} {A : Around} (r : Room k A) (h : j ≤ k) : Room j A := ⟨r.hd, by have := r.dp; omega, by have := r.un; omega⟩
theorem Room.deeper {k : Nat} {A : Around} (r : Room (k + 1) A) (env : Env) : Room k (A.deeper env) :=
  ⟨r.hd, by have := r.dp; show A.depth + 1 + 3 * k + 5 < _; omega, by have := r.un; show A.units + 3 + 16 * k + 200 < _; omega⟩
theorem Room.in1 {k : Nat} {A : Around} (r : Room (k + 1) A) : Room k A.in1 :=
  ⟨r.hd, by have := r.dp; show A.depth + 3 * k + 5 < _; omega, by have := r.un; show A.units + 1 + 16 * k + 200 < _; omega⟩
theorem Room.depth {k : Nat} {A : Around} (r : Room k A) : A.depth < recursionLimit := by have := r.dp; omega
theorem Room.units {k : Nat} {A : Around} (r : Room k A) : A.units + 64 < cLine := by have := r.un; omega
/-! ### argument lists and displays -/
def tNil : TA := fun _ H Q => Q [] H
def tCons (ta : TE) (tr : TA) : TA := fun σ H Q => ta σ H fun x H1 => tr σ H1 fun xs H2 => Q (x :: xs) H2
section
variable {X : Cx} {e : Expr} {es : List Expr} {te : TE} {t : TA} {pos : Pos}
theorem pa_nil : PA X [] tNil := fun _ _ _ _ H Q I h => Calls.spliced_nil ⟨[], H, I, .nil, h⟩
theorem pa_cons (ha : PE X e te) (hr : PA X es t) (hs : starEach (e :: es) X.env = (false, eval e X.env) :: starEach es X.env := by rfl) : PA X (e :: es) (tCons te t) := by
  intro pos pins s σ H Q I h
  rw [hs]
  show wpAny _ _ (spliced ((false, eval e X.env) :: backTo pos (starEach es X.env))) _ _ s
  refine Calls.spliced_cons (thn (ha pins s σ H _ I h) fun u s1 ⟨x, H1, I1, r1, q1⟩ => ?_)
  exact thn (hr pos pins s1 σ H1 _ I1 q1) fun us s2 ⟨xs, H2, I2, r2, q2⟩ => ⟨x :: xs, H2, I2, .cons r1 r2, q2⟩

/-- a tuple, a list of written items -/
def tTup (t : TA) : TE := fun σ H Q => t σ H fun xs H1 => xs.length ≤ sizeLine ∧ ∀ p, H1 p = none → Q (.ref p) (upd H1 p (.tup xs))
def tLst (t : TA) : TE := fun σ H Q => t σ H fun xs H1 => xs.length ≤ sizeLine ∧ ∀ p, H1 p = none → Q (.ref p) (upd H1 p (.lst xs))
theorem pe_tup {x1} (h : PA X es t) : PE X (.Tuple es x1 pos) (tTup t) := by
  intro pins s σ H Q I hq
  refine wpAny_Tuple_spliced (thn (h pos pins s σ H _ I hq) fun us s1 ⟨xs, H1, I1, r, z, q⟩ => ⟨by rw [← r.length]; exact z, ?_⟩)
  have hf : H1 s1.heap.objs.size = none := I1.hok.fresh (Nat.le_refl _)
  refine ⟨.ref s1.heap.objs.size, upd H1 s1.heap.objs.size (.tup xs), I1.laid (t' := s1.toks) (fun b u e => Heap.get?_push_of_some _ e) (Nat.le_refl _) ?_, rfl, q _ hf⟩
  exact ⟨z, us, r, ⟨_, Heap.get?_push_size _ rfl, rfl, _, rfl⟩⟩
theorem pe_lst (h : PA X es t) : PE X (.List es pos) (tLst t) := by
  intro pins s σ H Q I hq
  refine wpAny_List_spliced (thn (h pos pins s σ H _ I hq) fun us s1 ⟨xs, H1, I1, r, z, q⟩ => ⟨by rw [← r.length]; exact z, ?_⟩)
  have hf : H1 s1.heap.objs.size = none := I1.hok.fresh (Nat.le_refl _)
  refine ⟨.ref s1.heap.objs.size, upd H1 s1.heap.objs.size (.lst xs), I1.laid (t' := s1.toks) (fun b u e => Heap.get?_push_of_some _ e) (Nat.le_refl _) ?_, rfl, q _ hf⟩
  exact ⟨z, us, 0, r, Heap.get?_push_size _ rfl⟩
end

/-! ### what a def promises -/
/-- a def's promise: the bound arguments in the parameters' order, the heap, the wanted end, the wanted exception -/
abbrev Sp := List V → Hp → VK → XK → Prop
/-- how an exception lies behind a call (file 08 gives it): the callers' frames, abstract heap and state ahead of the call, the wish, the exception, the state -/
abbrev CXT := List Env → Hp → Shared → XK → Value → Shared → Prop

/-- the state at a call -/
structure Env0 (P : Program) (w : World) (K : PySem.W.Frag) (mg : Str → Option Value) (base : Heap) (A : Around) (outer : List Env) (s : Shared) (H : Hp) : Prop where
  frames : A.frames = some outer
  mod : Mod K mg base
  bs : ∀ b o, base.get? b = some o → s.heap.get? b = some o ∧ H b = none
  bsz : base.objs.size ≤ s.heap.objs.size
  funs : s.heap.FunFrames base outer
  frf : ∀ b ∈ frs outer, H b = none
  hok : HOk P w H s.heap
  bare : AllBare s.gens
/-- a call's end -/
def CE (outer : List Env) (P : Program) (w : World) (H : Hp) (s : Shared) (Q : VK) (u : Value) (s' : Shared) : Prop :=
  ∃ v H', s'.os = s.os ∧ AllBare s'.gens ∧ Un (frs outer) [] H H' s.heap s'.heap ∧ HOk P w H' s'.heap ∧ RelV v u ∧ Q v H'
def CR (CX : CXT) (outer : List Env) (P : Program) (w : World) (H : Hp) (s : Shared) (Q : VK) (E : XK) (r : Result) (s' : Shared) : Prop :=
  match r with
  | .ok (.ret u) => CE outer P w H s Q u s'
  | .ok _ => False
  | .error e => CX outer H s E e s'
structure FnOk (P : Program) (w : World) (K : PySem.W.Frag) (mg : Str → Option Value) (base : Heap) (CX : CXT) (k : Nat) (f : Addr) (fd : FuncData) (ps : List Str) (sp : Sp) : Prop where
  len : ∀ vs H Q E, sp vs H Q E → vs.length = ps.length
  run : ∀ (A : Around) (outer : List Env) (s : Shared) (H : Hp) (args : Args) (us : List Value) (vs : List V) (Q : VK) (E : XK), Room k A → Env0 P w K mg base A outer s H → BindsTo s fd args (ps.zip us) → Vals vs us → sp vs H Q E →
    codeAny (model P w) A (.call (.ref f) args) (CR CX outer P w H s Q E) s
theorem FnOk.mono {P : Program} {w : World} {K : PySem.W.Frag} {mg : Str → Option Value} {base : Heap} {CX : CXT} {j k : Nat} {f : Addr} {fd : FuncData} {ps : List Str} {sp : Sp} (F : FnOk P w K mg base CX j f fd ps sp) (h : j ≤ k) :
    FnOk P w K mg base CX k f fd ps sp := ⟨F.len, fun A outer s H args us vs Q E hr => F.run A outer s H args us vs Q E (hr.mono h)⟩
/-- a weaker promise -/
theorem FnOk.imp {P : Program} {w : World} {K : PySem.W.Frag} {mg : Str → Option Value} {base : Heap} {CX : CXT} {k : Nat} {f : Addr} {fd : FuncData} {ps : List Str} {sp sp' : Sp} (F : FnOk P w K mg base CX k f fd ps sp)
    (h : ∀ vs H Q E, sp' vs H Q E → sp vs H Q E) : FnOk P w K mg base CX k f fd ps sp' :=
  ⟨fun vs H Q E q => F.len vs H Q E (h _ _ _ _ q), fun A outer s H args us vs Q E hr he hb hv hs => F.run A outer s H args us vs Q E hr he hb hv (h _ _ _ _ hs)⟩

theorem Env0.in1 {P : Program} {w : World} {K : PySem.W.Frag} {mg : Str → Option Value} {base : Heap} {A : Around} {outer : List Env} {s : Shared} {H : Hp} (e : Env0 P w K mg base A outer s H) :
    Env0 P w K mg base A.in1 outer s H := ⟨e.frames, e.mod, e.bs, e.bsz, e.funs, e.frf, e.hok, e.bare⟩

section
variable {X : Cx} {pins : List (Addr × Obj)} {σ : St} {H : Hp} {s s' : Shared}
/-- from a body: what a callee wants -/
theorem Inv.env0 (I : Inv X pins σ H s) : Env0 X.prog X.w X.K X.mg X.base X.A X.stack s H :=
  ⟨I.ok.frames, I.ok.mod, I.bs, Nat.le_trans I.ok.bsz I.sz, I.stack, I.stkFree, I.hok, I.bare⟩
/-- behind a call -/
theorem Inv.after {Q : VK} {u : Value} (I : Inv X pins σ H s) (h : CE X.stack X.prog X.w H s Q u s') : EP X pins σ Q u s' := by
  obtain ⟨v, H', os, bare, un, hok, r, q⟩ := h
  obtain ⟨hh, g, d, t, os'⟩ := s'
  obtain rfl : os' = s.os := os
  exact ⟨v, H', I.call (h' := hh) (g' := g) (d' := d) (t' := t) (ch := []) un hok bare (fun b z => absurd z (by simp)), r, q⟩
end

/-! ### calls -/
/-- f(..): the written arguments, then the defaults dvs; E: what is wanted of an exception -/
def tCall (sp : Sp) (dvs : List V) (E : XK) (t : TA) : TE := fun σ H Q => t σ H fun vs H1 => sp (vs ++ dvs) H1 Q E
/-- how the parameters are bound: us the positional arguments, kw the keywords' values by name, ds the defaults that fill up -/
def Binds (K : PySem.W.Frag) (fd : FuncData) (ps : List Str) (ds : List Value) : Prop :=
  ∀ (s : Shared) (us : List Value), K.In s.heap → (us ++ ds).length = ps.length → BindsTo s fd ⟨us, []⟩ (ps.zip (us ++ ds))
/-- every parameter is given -/
theorem Binds.all {K : PySem.W.Frag} {fd : FuncData} {ps : List Str} (h : ∀ us : List Value, us.length = ps.length → bindArgs fd ⟨us, []⟩ = pure (ps.zip us)) : Binds K fd ps [] := fun s us _ hl => by
  rw [List.append_nil] at hl ⊢
  exact .of_eq (h us hl)

/-- an exception of a callee reaches what this body wants of exceptions -/
def Passes (CX : CXT) (X : Cx) (E : XK) : Prop := ∀ (pins : List (Addr × Obj)) (σ : St) (H : Hp) (s : Shared) (e : Value) (s' : Shared), Inv X pins σ H s → CX X.stack H s E e s' → X.xe e s'

section
variable {X : Cx} {CX : CXT} {k : Nat} {f C : Addr} {fd : FuncData} {ps : List Str} {sp : Sp} {dvs : List V} {ds : List Value} {E : XK} {x m : Str} {p pos apos : Pos} {e o : Expr} {es : List Expr} {ta : TE} {t : TA}

/-- the callee runs -/
theorem run_fn {pins : List (Addr × Obj)} {σ : St} {H : Hp} {s : Shared} {Q : VK} {us : List Value} {vs : List V} (F : FnOk X.prog X.w X.K X.mg X.base CX k f fd ps sp) (hr : Room k X.A) (hb : Binds X.K fd ps ds) (hd : Vals dvs ds) (hx : Passes CX X E)
    (I : Inv X pins σ H s) (r : Vals vs us) (h : sp (vs ++ dvs) H Q E) : wpAny (model X.prog X.w) X.A (call (.ref f) us) (EP X pins σ Q) X.xe s := by
  have r2 : Vals (vs ++ dvs) (us ++ ds) := r.append hd
  have hl : (us ++ ds).length = ps.length := by rw [← r2.length]; exact F.len _ _ _ _ h
  refine wpAny_call (codeAny_mono (F.run X.A X.stack s H ⟨us, []⟩ (us ++ ds) (vs ++ dvs) Q E hr I.env0 (hb s us I.kIn hl) r2 h) fun r s' hq => ?_)
  cases r with
  | error e => exact hx pins σ H s e s' I hq
  | ok fl =>
    cases fl with
    | ret u => exact I.after hq
    | next => exact False.elim hq
    | brk => exact False.elim hq
    | cont => exact False.elim hq

theorem pe_call (F : FnOk X.prog X.w X.K X.mg X.base CX k f fd ps sp) (hr : Room k X.A) (hg : Gl X x) (hm : X.mg x = some (.ref f)) (hk : PySem.W.keepIn X.K (.ref f) = true) (hb : Binds X.K fd ps ds) (hd : Vals dvs ds) (hx : Passes CX X E)
    (ha : PA X (e :: es) t) (hdb : (x == ("__debug__" : Str)) = false := by decide) (he : starEach (e :: es) X.env = (false, eval e X.env) :: starEach es X.env := by rfl) (hpl : (backTo pos (starEach es X.env)).any (·.1) = false := by rfl) :
    PE X (.Call (.Name x p) (e :: es) [] pos) (tCall sp dvs E t) := by
  intro pins s σ H Q I h
  refine wpAny_Call_Name_kw (ld_glob I hg hm ?_ hdb)
  refine PySem.W.callWith_K (h₀ := X.base) I.ok.mod.kin hk (thn (ha pos pins s σ H _ I h) fun us s1 ⟨vs, H1, I1, r, q⟩ => ⟨I1.kIn, ?_⟩) he hpl
  exact run_fn F hr hb hd hx I1 r q
/-- what a class must have to be made -/
structure Mk (K : PySem.W.Frag) (C f : Addr) : Prop where
  makes : PySem.W.makesIn K C = true
  init : PySem.W.findIn K (.ref C) "__init__" = some (some (.ref f))
  fn : PySem.W.isFn K (.ref f) = true
  kp : PySem.W.keepIn K (.ref C) = true

end

/-! ### keywords -/
section
variable {X : Cx} {CX : CXT} {k : Nat} {f C : Addr} {fd : FuncData} {ps ks : List Str} {sp : Sp} {E : XK} {x m : Str} {p pos apos kpos : Pos} {e o : Expr} {es : List Expr} {kws : List Keyword} {te ta : TE} {t tk : TA} {nm : Option Str}
/-- how a call with keywords binds: g puts the positional values us and the keywords' values ws (names ks) in the parameters' order, defaults among them -/
structure KBinds (K : PySem.W.Frag) (fd : FuncData) (ps ks : List Str) (g : List Value → List Value → List Value) (gV : List V → List V → List V) : Prop where
  to : ∀ (s : Shared) (us ws : List Value), K.In s.heap → (g us ws).length = ps.length → BindsTo s fd ⟨us, ks.zip ws⟩ (ps.zip (g us ws))
  rel : ∀ {vs : List V} {us : List Value} {zs : List V} {ws : List Value}, Vals vs us → Vals zs ws → Vals (gV vs zs) (g us ws)
variable {g : List Value → List Value → List Value} {gV : List V → List V → List V}
end

/-! ### a def's body keeps its promise -/
/-- names: the parameters first -/
structure FnScope (N P : List Str) (sc : Scope) : Prop where
  kind : sc.kind = .function
  co : sc.isCoroutine = false
  gen : sc.isGenerator = false
  nd : N.Nodup
  pre : N.take P.length = P
  par : ∀ x ∈ P, sc.names.lookup x = some .local ∨ sc.names.lookup x = some .cell
  nofree : ∀ y ∈ sc.names, y.2 ≠ .free

theorem bindL_out {kindOf : Str → Option NameKind} {x : Str} : ∀ {binds : List (Str × Value)} {m : Str → Option Value}, (∀ v, (x, v) ∉ binds) → bindL kindOf binds m x = m x
  | [], _, _ => rfl
  | (n, v) :: r, m, h => by
    unfold bindL
    rw [bindL_out fun w hw => h w (List.mem_cons_of_mem _ hw)]
    split
    · have : x ≠ n := by rintro rfl; exact h v List.mem_cons_self
      simp [this]
    · rfl
theorem bindC_out {kindOf : Str → Option NameKind} {x : Str} : ∀ {binds : List (Str × Value)} {m : Str → Option Value}, (∀ v, (x, v) ∉ binds) → bindC kindOf binds m x = m x
  | [], _, _ => rfl
  | (n, v) :: r, m, h => by
    unfold bindC
    rw [bindC_out fun w hw => h w (List.mem_cons_of_mem _ hw)]
    split
    · rfl
    · have : x ≠ n := by rintro rfl; exact h v List.mem_cons_self
      simp [this]
theorem bindL_get {kindOf : Str → Option NameKind} {x : Str} {v : Value} : ∀ {P : List Str} {vs : List Value} {i : Nat} {m : Str → Option Value}, P.Nodup → P[i]? = some x → vs[i]? = some v → kindOf x = some .local →
    bindL kindOf (P.zip vs) m x = some v
  | [], _, _, _, _, h, _, _ => by simp at h
  | _ :: _, [], _, _, _, _, h, _ => by simp at h
  | p :: P, w :: vs, 0, m, nd, h1, h2, hk => by
    simp at h1 h2; subst h1; subst h2
    show bindL kindOf ((p, w) :: P.zip vs) m p = _
    unfold bindL
    rw [bindL_out fun v hv => (List.nodup_cons.mp nd).1 (List.of_mem_zip hv).1, if_pos hk]
    simp
  | p :: P, w :: vs, i + 1, m, nd, h1, h2, hk => by
    show bindL kindOf ((p, w) :: P.zip vs) m x = _
    unfold bindL
    exact bindL_get (i := i) (List.nodup_cons.mp nd).2 (by simpa using h1) (by simpa using h2) hk
theorem bindC_get {kindOf : Str → Option NameKind} {x : Str} {v : Value} : ∀ {P : List Str} {vs : List Value} {i : Nat} {m : Str → Option Value}, P.Nodup → P[i]? = some x → vs[i]? = some v → kindOf x ≠ some .local →
    bindC kindOf (P.zip vs) m x = some v
  | [], _, _, _, _, h, _, _ => by simp at h
  | _ :: _, [], _, _, _, _, h, _ => by simp at h
  | p :: P, w :: vs, 0, m, nd, h1, h2, hk => by
    simp at h1 h2; subst h1; subst h2
    show bindC kindOf ((p, w) :: P.zip vs) m p = _
    unfold bindC
    rw [bindC_out fun v hv => (List.nodup_cons.mp nd).1 (List.of_mem_zip hv).1, if_neg hk]
    simp
  | p :: P, w :: vs, i + 1, m, nd, h1, h2, hk => by
    show bindC kindOf ((p, w) :: P.zip vs) m x = _
    unfold bindC
    exact bindC_get (i := i) (List.nodup_cons.mp nd).2 (by simpa using h1) (by simpa using h2) hk

/-- the names' values at the entry -/
def start (N : List Str) (vs : List V) : St := vs.map some ++ List.replicate (N.length - vs.length) none

/-- the context of a def's body, at its entry; an exception leaves the frame, then lies as CX says -/
def cxOf (CX : CXT) (P : Program) (w : World) (K : PySem.W.Frag) (mg : Str → Option Value) (base : Heap) (N : List Str) (qual : Str) (scope : Scope) (f : Addr) (cd : Value) (A : Around) (outer : List Env) (s : Shared) (H : Hp) (E : XK) : Cx where
  prog := P
  w := w
  K := K
  mg := mg
  base := base
  A := A.deeper (envOfC qual scope s.heap.objs.size f cd)
  N := N
  s₀ := s
  H₀ := H
  env := envOfC qual scope s.heap.objs.size f cd
  outer := outer
  stack := envOfC qual scope s.heap.objs.size f cd :: outer
  ex := []
  calm := true
  fn := fun _ => true
  pn := []
  xe := fun e s' => wpAny (model P w) (A.deeper (envOfC qual scope s.heap.objs.size f cd)) (leaving (envOfC qual scope s.heap.objs.size f cd) e) (fun _ s'' => CX outer H s E e s'') (fun e' s'' => CX outer H s E e' s'') s'

theorem cell_has {sc : Scope} {n : Nat} {x : Str} (h : sc.names.lookup x = some .cell) : ∃ c, (cellsFrom n sc.names []).lookup x = some c := by
  have q := PySem.W.cellsFrom_some sc.names n [] (.inl h)
  exact Option.isSome_iff_exists.mp q

theorem inv_start {CX : CXT} {P : Program} {w : World} {K : PySem.W.Frag} {mg : Str → Option Value} {base : Heap} {N ps : List Str} {qual : Str} {scope : Scope} {f : Addr} {cd : Value} {A : Around} {outer : List Env} {s s1 : Shared} {H : Hp} {E : XK} {us : List Value} {vs : List V}
    (S : FnScope N ps scope) (hd : A.handled = none) (e0 : Env0 P w K mg base A outer s H) (hl : vs.length = ps.length) (r : Vals vs us)
    (x : InCallC s s.heap.objs.size (bindL (envOfC qual scope s.heap.objs.size f cd).kindOf (ps.zip us) fun _ => none) (cellsFrom (s.heap.objs.size + 1) scope.names []) (bindC (envOfC qual scope s.heap.objs.size f cd).kindOf (ps.zip us) fun _ => none) s1) :
    Inv (cxOf CX P w K mg base N qual scope f cd A outer s H E) [] (start N vs) H s1 := by
  have hpl : ps.length ≤ N.length := by have := congrArg List.length S.pre; rw [List.length_take] at this; omega
  obtain ⟨h1, tk, rfl, hk⟩ := x.done
  have noA : ∀ b : Addr, b ∉ (cxOf CX P w K mg base N qual scope f cd A outer s H E).ex := fun b z => absurd (show b ∈ ([] : List Addr) from z) (by simp)
  refine ⟨⟨e0.mod, S.kind, rfl, rfl, Nat.le_refl _, fun y z c h1 h2 => ?_, fun y hy => ?_, fun y c _ h => ?_, fun _ => hd, Around.frames_deeper e0.frames, .inr ⟨rfl, rfl⟩, fun b z => absurd z (noA b), e0.bs, e0.bsz, fun b _ _ => noA b, fun b z => absurd z (noA b), e0.funs, e0.frf⟩,
    rfl, e0.bare, Un.kept hk, ⟨_, x.toInCall.ns, fun i y v h1 h2 h3 => ?_⟩, fun y c h => ⟨_, x.cell y c h⟩, e0.hok.fresh (Nat.le_refl _), fun y c h => ?_, fun p hp => absurd (show p ∈ ([] : List (Addr × Obj)) from hp) (by simp), e0.hok.kept hk, ?_⟩
  · exact name_of_addr x.apart (PySem.mem_of_lookup h1) (PySem.mem_of_lookup h2)
  · have hy : scope.names.lookup y = some .cell ∨ scope.names.lookup y = some .free := hy
    rcases hy with hy | hy
    · exact cell_has hy
    · exact absurd rfl (S.nofree _ (PySem.mem_of_lookup hy))
  · exact Nat.le_of_lt (x.above y c (PySem.mem_of_lookup h))
  · have hi : i < vs.length := by
      unfold start at h2
      by_cases hi : i < vs.length
      · exact hi
      · rw [List.getElem?_append_right (by simpa using hi)] at h2
        rw [List.getElem?_replicate] at h2
        split at h2 <;> cases h2
    have ha : vs[i]? = some v := by
      unfold start at h2
      rw [List.getElem?_append_left (by simpa using hi), List.getElem?_map] at h2
      cases e : vs[i]? with
      | none => rw [e] at h2; cases h2
      | some a => rw [e] at h2; cases h2; rfl
    obtain ⟨u, hu, rv⟩ := r.get ha
    have hp : ps[i]? = some y := by
      rw [← S.pre, List.getElem?_take_of_lt (by omega)]; exact h1
    have ndP : ps.Nodup := by rw [← S.pre]; exact S.nd.sublist (List.take_sublist _ _)
    refine ⟨u, rv, ?_⟩
    rcases S.par y (List.mem_of_getElem? hp) with k | k
    · exact .inl ⟨k, bindL_get ndP hp hu k⟩
    · obtain ⟨c, e⟩ := cell_has (n := s.heap.objs.size + 1) k
      refine .inr ⟨.inl k, c, e, ?_⟩
      have q := x.cell y c e
      rw [bindC_get ndP hp hu (by show scope.names.lookup y ≠ _; rw [k]; decide)] at q
      exact q
  · exact e0.hok.fresh (Nat.le_of_lt (x.above y c (PySem.mem_of_lookup h)))
  · unfold start
    show _ = N.length
    rw [List.length_append, List.length_map, List.length_replicate]
    omega

/-- THE RULE: a def (or a method) of the text, by its body. The body's reading t is chosen for each entry; it is run at the parameters' values -/
theorem fn_of {CX : CXT} {P : Program} {w : World} {K : PySem.W.Frag} {mg : Str → Option Value} {base : Heap} {k : Nat} {f : Addr} {name qual : Str} {params : Arguments} {body : List Stmt} {scope : Scope} {dV kV doc pm cdv ct oc : Value} {an od : Option Addr}
    {osl : Array (Option Value)} {N ps : List Str} {sp : Sp} (lk : K.lookup f = some ⟨oc, od, .func (PySem.W.fnOf name qual params body scope dV kV doc pm an cdv ct), osl⟩) (hcd : PySem.W.codeIn K cdv qual = true) (S : FnScope N ps scope)
    (len : ∀ vs H Q E, sp vs H Q E → vs.length = ps.length)
    (hbody : ∀ (A : Around) (outer : List Env) (s : Shared) (H : Hp) (vs : List V) (Q : VK) (E : XK), Room k (A.deeper (envOfC qual scope s.heap.objs.size f cdv)) → sp vs H Q E →
      ∃ t, PSs (cxOf CX P w K mg base N qual scope f cdv A outer s H E) body t ∧ t { nx := fun _ H' => Q .non H', rt := Q } (start N vs) H) :
    FnOk P w K mg base CX (k + 1) f (PySem.W.fnOf name qual params body scope dV kV doc pm an cdv ct) ps sp := by
  refine ⟨len, fun A outer s H args us vs Q E hr e0 hb r hsp => ?_⟩
  have hl := len _ _ _ _ hsp
  have KX : K.In s.heap := e0.mod.kin.keeps fun b o e => (e0.bs b o e).1
  have lim : s.heap.NoLimit := e0.mod.nolimit.keeps fun b o e => (e0.bs b o e).1
  have hkind : ∀ y ∈ ps.zip us, scope.names.lookup y.1 = some .local ∨ (scope.names.lookup y.1 = some .cell ∧ ((cellsFrom (s.heap.objs.size + 1) scope.names []).lookup y.1).isSome = true) := fun ⟨n, v⟩ hy => by
    rcases S.par n (List.of_mem_zip hy).1 with q | q
    · exact .inl q
    · exact .inr ⟨q, PySem.W.cellsFrom_some _ _ _ (.inl q)⟩
  refine codeAny_call_function hr.depth (KX _ _ lk) rfl S.co S.gen rfl (PySem.W.codeRec_of KX hcd) (hb _ _ _ _ ?_)
  refine wpAny_newFunctionEnv_cells S.kind hkind fun env he s1 x => ?_
  subst he
  refine ⟨lim.keeps x.toInCall.keep, codeAny_func ?_⟩
  obtain ⟨t, ht, hq⟩ := hbody A outer s H vs Q E (hr.deeper _) hsp
  have I : Inv (cxOf CX P w K mg base N qual scope f cdv A outer s H E) [] (start N vs) H s1 := inv_start S hr.hd e0 hl r x
  refine wpAny_mono (ht [] s1 (start N vs) H _ I hq) (fun fl s' hs => ?_) fun e s' hs => hs
  have fin : ∀ {σ' : St} {H' : Hp} {v : V} {u : Value}, Inv (cxOf CX P w K mg base N qual scope f cdv A outer s H E) [] σ' H' s' → RelV v u → Q v H' → CE outer P w H s Q u s' :=
    fun {σ' H' v u} J rv q => ⟨v, H', J.os, J.bare, J.base, J.hok, rv, q⟩
  cases fl with
  | ret u =>
    obtain ⟨v, σ', H', J, rv, q⟩ := hs
    exact fin J rv q
  | next =>
    obtain ⟨σ', H', J, q⟩ := hs
    exact fin (v := V.non) (u := Value.none) J rfl q
  | brk =>
    obtain ⟨_, _, _, q⟩ := hs
    exact False.elim q
  | cont =>
    obtain ⟨_, _, _, q⟩ := hs
    exact False.elim q
end L2

namespace L2
open PySem PySem.Spec PyProof.Rows
section
variable {X : Cx} {x : Str} {p pos : Pos} {e : Expr} {es : List Expr} {t : TA} {id T : String} {r : List V → Hp → VK → Prop}

def tCB (r : List V → Hp → VK → Prop) (t : TA) : TE := fun σ H Q => t σ H fun vs H1 => r vs H1 Q
/-- f(e, ..), f a built-in function -/
theorem pe_callB (hc : CallR X (.builtin id) r) (hg : Gl X x) (hm : X.mg x = none) (hv : bootBuiltins x = some (.builtin id)) (ha : PA X (e :: es) t) (hn : x ≠ "__name__" := by decide) (hdb : (x == ("__debug__" : Str)) = false := by decide)
    (he : starEach (e :: es) X.env = (false, eval e X.env) :: starEach es X.env := by rfl) (hpl : (backTo pos (starEach es X.env)).any (·.1) = false := by rfl) : PE X (.Call (.Name x p) (e :: es) [] pos) (tCB r t) := by
  intro pins s σ H Q I h
  refine wpAny_Call_Name_kw (ld_blt I hg hm hv ?_ hn hdb)
  exact PyProof.Rows.callWith_builtin1 (thn (ha pos pins s σ H _ I h) fun us s1 ⟨vs, H1, I1, r1, q1⟩ => hc pins s1 σ H1 vs us Q I1 r1 q1) he hpl
/-- T(e, ..), T a built-in type -/
theorem pe_callTy (hc : CallR X (.type T) r) (hg : Gl X x) (hm : X.mg x = none) (hv : bootBuiltins x = some (.type T)) (ha : PA X (e :: es) t) (hn : x ≠ "__name__" := by decide) (hdb : (x == ("__debug__" : Str)) = false := by decide)
    (he : starEach (e :: es) X.env = (false, eval e X.env) :: starEach es X.env := by rfl) (hpl : (backTo pos (starEach es X.env)).any (·.1) = false := by rfl) : PE X (.Call (.Name x p) (e :: es) [] pos) (tCB r t) := by
  intro pins s σ H Q I h
  refine wpAny_Call_Name_kw (ld_blt I hg hm hv ?_ hn hdb)
  exact PyProof.Rows.callWith_type1 (thn (ha pos pins s σ H _ I h) fun us s1 ⟨vs, H1, I1, r1, q1⟩ => hc pins s1 σ H1 vs us Q I1 r1 q1) he hpl
end
end L2

namespace HT
open PySem PyProof.Rows

section
open PySem.SeqAt
open PySem.AutoSeq1 (wpAny_loadPart')
open PySem.MeetsSeq PySem.MeetsSeq2 PySem.MeetsSeq3

end

section
variable {prog : Program} {w : World} {A : Around} {E : Value → Shared → Prop} {s : Shared}

/-- t + u, t not empty -/
theorem cat_tup {t b : Addr} {vs ws : List Value} {Q : Value → Shared → Prop} (ht : IsTup s.heap t vs.toArray) (hb : IsTup s.heap b ws.toArray) (hv : vs ≠ [])
    (h1 : ws = [] → Q (.ref t) s) (h2 : ws ≠ [] → Q (.ref s.heap.objs.size) { s with heap := s.heap.push { cls := .type "tuple", data := .seq (vs ++ ws).toArray } })
    (hsz : vs.length + ws.length ≤ sizeLine) : wpAny (model prog w) A (binaryOp .Add (.ref t) (.ref b)) Q E s := by
  obtain ⟨⟨cls, dd, data, sl⟩, ho, hc, n, hd⟩ := id ht
  obtain ⟨⟨cls2, dd2, data2, sl2⟩, ho2, hc2, n2, hd2⟩ := id hb
  simp only at hc hd hc2 hd2
  subst hc hd hc2 hd2
  have e : vs.toArray ++ ws.toArray = (vs ++ ws).toArray := by simp
  by_cases hw : ws = []
  · exact concat_meets ⟨_, ho, rfl⟩ ⟨_, ho2, rfl⟩ noFill_tuple_add seq_tuple_add PySem.F.slot_tuple_add PySem.F.entry_tuple_add (PySem.F.args_tuple_add_2 _ _)
      (tuple_addW1 t b vs.toArray ws.toArray n n2 dd dd2 sl sl2 (by simpa using hv) (by simp [hw])) ⟨ho, ho2, h1 hw⟩
  · refine concat_meets ⟨_, ho, rfl⟩ ⟨_, ho2, rfl⟩ noFill_tuple_add seq_tuple_add PySem.F.slot_tuple_add PySem.F.entry_tuple_add (PySem.F.args_tuple_add_2 _ _)
      (tuple_addW2 t b vs.toArray ws.toArray n n2 dd dd2 sl sl2 (by simpa using hv) (by simpa using hw) (by rw [List.size_toArray, List.size_toArray]; exact hsz)) ⟨ho, ho2, ?_⟩
    rw [e]
    exact h2 hw

/-! ### t[a:b], not the whole -/
/-- a slice's bound as a place among n (d where it is left out) -/
def sIx (n d : Nat) : Option Int → Nat
  | none => d
  | some v => if v < 0 then (v + (n : Int)).toNat else min v.toNat n
theorem sIx_le (n d : Nat) (hd : d ≤ n) (o : Option Int) : sIx n d o ≤ n := by
  cases o with
  | none => exact hd
  | some v =>
    show (if v < 0 then (v + (n : Int)).toNat else min v.toNat n) ≤ n
    by_cases hv : v < 0
    · rw [if_pos hv]; omega
    · rw [if_neg hv]; exact Nat.min_le_right _ _
theorem clip_eq (v : Int) (n d : Nat) : (if v < 0 then max (v + (n : Int)) 0 else min v (n : Int)) = ((sIx n d (some v) : Nat) : Int) := by
  show (if v < 0 then max (v + (n : Int)) 0 else min v (n : Int)) = (((if v < 0 then (v + (n : Int)).toNat else min v.toNat n) : Nat) : Int)
  by_cases hv : v < 0
  · simp only [if_pos hv]; omega
  · simp only [if_neg hv]; omega
theorem adjust_gen (lo hi : Option Int) (n : Nat) : Builtin.Slice.sliceAdjust lo hi 1 (n : Int) = (((sIx n 0 lo : Nat) : Int), ((sIx n n hi : Nat) : Int)) := by
  have h1 : ¬ ((1 : Int) < 0) := by omega
  unfold Builtin.Slice.sliceAdjust
  simp only [h1, if_false]
  refine Prod.ext ?_ ?_
  · cases lo with
    | none => rfl
    | some v => exact clip_eq v n 0
  · cases hi with
    | none => rfl
    | some v => exact clip_eq v n n
theorem places_gen (i j : Nat) : Builtin.Slice.slicePlaces (i : Int) (j : Int) 1 = j - i := by
  unfold Builtin.Slice.slicePlaces
  have h1 : (1 : Int) > 0 := by omega
  simp only [h1, if_true, Int.ediv_one]
  split <;> omega
theorem slicePart_ {v : Value} {o : Option Int} {Q : Option Int → Shared → Prop} (p : IsPart v o) (h : Q o s) : wpAny (model prog w) A (Builtin.Slice.slicePartIndex v) Q E s := by
  cases p with
  | none => exact slicePart_none h
  | int i t => exact slicePart_int h
theorem sliceApplied_gen {sl : Addr} {vl vu : Value} {lo hi : Option Int} {n : Nat} {Q : Int × Int × Nat → Shared → Prop} (hs : s.heap.IsSliceOf sl vl vu .none) (pl : IsPart vl lo) (pu : IsPart vu hi)
    (h : Q (((sIx n 0 lo : Nat) : Int), 1, sIx n n hi - sIx n 0 lo) s) : wpAny (model prog w) A (Builtin.Slice.sliceApplied (.ref sl) (pure (n : Int))) Q E s := by
  obtain ⟨os, hos, hcs, hds⟩ := id hs
  unfold Builtin.Slice.sliceApplied Builtin.Slice.sliceFields
  refine wpAny_bind (wpAny_bind (wpAny_field hos hds (x := vl) rfl (wpAny_bind (wpAny_field hos hds (x := vu) rfl (wpAny_bind (wpAny_field hos hds (x := .none) rfl (wpAny_pure ?_)))))))
  refine wpAny_bind (slicePart_none ?_)
  show wpAny _ _ (if ((1 : Int) == 0) = true then _ else _) _ _ s
  rw [if_neg (by decide)]
  refine wpAny_bind (slicePart_ pl (wpAny_bind (slicePart_ pu (wpAny_bind (wpAny_pure ?_)))))
  show wpAny _ _ (match Builtin.Slice.sliceAdjust lo hi 1 (n : Int) with | (lo, hi) => pure (lo, (1 : Int), Builtin.Slice.slicePlaces lo hi 1)) _ _ s
  rw [adjust_gen lo hi n]
  show wpAny _ _ (pure (((sIx n 0 lo : Nat) : Int), (1 : Int), Builtin.Slice.slicePlaces ((sIx n 0 lo : Nat) : Int) ((sIx n n hi : Nat) : Int) 1)) _ _ s
  rw [places_gen]
  exact wpAny_pure h
theorem pick_gen (xs : Array Value) (i k : Nat) : ((List.range k).filterMap fun (m : Nat) => xs[((i : Int) + (m : Int) * 1).toNat]?).toArray = ((xs.toList.drop i).take k).toArray := by
  have e : (fun (m : Nat) => xs[((i : Int) + (m : Int) * 1).toNat]?) = fun m => xs[i + m]? := by
    funext m
    have : ((i : Int) + (m : Int) * 1).toNat = i + m := by omega
    rw [this]
  rw [e]
  have := pick_run xs i k
  rw [List.filterMap_map] at this
  have e2 : ((fun x => xs[x]?) ∘ fun x => i + x) = fun m => xs[i + m]? := rfl
  rw [e2] at this
  rw [this]

theorem getItem_tuple_cut {t sl : Addr} {items : Array Value} {vl vu : Value} {lo hi : Option Int} {Q : Value → Shared → Prop} (ht : IsTup s.heap t items) (hs : s.heap.IsSliceOf sl vl vu .none) (pl : IsPart vl lo) (pu : IsPart vu hi)
    (hw : ¬ (sIx items.size 0 lo = 0 ∧ sIx items.size items.size hi = items.size))
    (h : Q (.ref s.heap.objs.size) { s with heap := s.heap.push { cls := .type "tuple", data := .seq ((items.toList.drop (sIx items.size 0 lo)).take (sIx items.size items.size hi - sIx items.size 0 lo)).toArray } })
    (hsz : items.size ≤ sizeLine) : wpAny (model prog w) A (getItem (.ref t) (.ref sl)) Q E s := by
  have htake : sizeOk (.seq ((items.toList.drop (sIx items.size 0 lo)).take (sIx items.size items.size hi - sIx items.size 0 lo)).toArray) := by
    show ((items.toList.drop (sIx items.size 0 lo)).take (sIx items.size items.size hi - sIx items.size 0 lo)).toArray.size ≤ sizeLine
    rw [List.size_toArray, List.length_take, List.length_drop, Array.length_toList]
    omega
  have hj : sIx items.size items.size hi ≤ items.size := sIx_le _ _ (Nat.le_refl _) hi
  obtain ⟨os, hos, hcs, hds⟩ := id hs
  have hTs : s.TypeIs (.ref sl) "slice" := ⟨os, hos, hcs⟩
  unfold getItem
  try with_reducible refine wpAny_holding ?_
  first | refine wpAny_bind (wpAny_pure ?_) | skip
  refine wpAny_bind (wpAny_sequenceKey ht.typeIs (by decide) ?_)
  refine wpAny_bind (wpAny_callSpecial?_slot (name := Str.ofString "__getitem__") ht.typeIs PyProof.Rows.slot_tuple_getitem
    (wpAny_call_entry PyProof.Rows.slot_tuple_getitem ht.typeIs entry_tuple_getitem ?_ (args_tuple_getitem _ _)))
  show wpAny _ _ (Builtin.Tuple.tupleItemsOf (.ref t) >>= _) _ _ s
  refine wpAny_bind (tupleItemsOf_ ht ?_)
  refine wpAny_bind (wpAny_typeOf hTs ?_)
  rw [if_pos (by decide)]
  refine wpAny_bind (sliceApplied_gen hs pl pu ?_)
  have hno : ¬ ((((sIx items.size 0 lo : Nat) : Int) == 0 && (1 : Int) == 1 && (sIx items.size items.size hi - sIx items.size 0 lo) == items.size) = true) := by
    intro q
    rw [Bool.and_eq_true, Bool.and_eq_true] at q
    have q1 : ((sIx items.size 0 lo : Nat) : Int) = 0 := eq_of_beq q.1.1
    have q2 : sIx items.size items.size hi - sIx items.size 0 lo = items.size := eq_of_beq q.2
    exact hw ⟨by omega, by omega⟩
  show wpAny _ _ (if (((sIx items.size 0 lo : Nat) : Int) == 0 && (1 : Int) == 1 && (sIx items.size items.size hi - sIx items.size 0 lo) == items.size) = true then _ else _) _ _ s
  rw [if_neg hno, pick_gen]
  first
    | exact wpAny_bind (m := Builtin.Tuple.tupleExact _) (wpAny_newObj_type (wpAny_pure ⟨_, rfl, wpAny_pure h⟩) htake)
    | exact wpAny_bind (m := Builtin.Tuple.tupleExact _) (wpAny_newObj_type (wpAny_bind (wpAny_pure (wpAny_pure ⟨_, rfl, wpAny_pure h⟩))) htake)
    | exact wpAny_bind (wpAny_bind (m := Builtin.Tuple.tupleExact _) (wpAny_newObj_type (wpAny_pure (wpAny_pure ⟨_, rfl, wpAny_pure h⟩)) htake))
    | exact wpAny_bind (wpAny_bind (m := Builtin.Tuple.tupleExact _) (wpAny_newObj_type (wpAny_pure ⟨_, rfl, wpAny_pure h⟩) htake))
end
end HT

namespace L2
open PySem PySem.Spec PyProof.Rows

/-! ### the parts of a slice -/
abbrev TO := St → Hp → (Option Int → Hp → Prop) → Prop
/-- a slice's part (left out, or an int) -/
def PO (X : Cx) (e : Option Expr) (t : TO) : Prop :=
  ∀ (pins : List (Addr × Obj)) (s : Shared) (σ : St) (H : Hp) (Q : Option Int → Hp → Prop), Inv X pins σ H s → t σ H Q →
    wpAny (model X.prog X.w) X.A (evalPart e X.env) (fun u s' => ∃ o H', Inv X pins σ H' s' ∧ IsPart u o ∧ Q o H') X.xe s
def tNoPart : TO := fun _ H Q => Q none H
def tPart (t : TE) : TO := fun σ H Q => t σ H fun x H1 => ∃ i, x = .int i ∧ Q (some i) H1

section
variable {X : Cx} {e : Expr} {te : TE} {lo hi : Option Expr} {tl th : TO} {pos p2 : Pos}

theorem po_none : PO X none tNoPart := by
  intro pins s σ H Q I h
  rw [evalPart_none]
  exact wpAny_pure ⟨none, H, I, .none, h⟩
theorem po_some (h : PE X e te) : PO X (some e) (tPart te) := by
  intro pins s σ H Q I hw
  rw [evalPart_some]
  refine thn (h pins s σ H _ I hw) fun u s1 ⟨x, H1, I1, r1, q1⟩ => ?_
  obtain ⟨i, rfl, q⟩ := q1
  obtain ⟨t, rfl⟩ := r1
  exact ⟨some i, H1, I1, .int i t, q⟩

/-- what a slice of a value is, by values: the slice object stands at sl -/
def SlR (X : Cx) (r : V → Option Int → Option Int → Hp → VK → Prop) : Prop :=
  ∀ (pins : List (Addr × Obj)) (s : Shared) (σ : St) (H : Hp) (x : V) (v vl vu : Value) (lo hi : Option Int) (sl : Addr) (Q : VK), Inv X pins σ H s → RelV x v → s.heap.IsSliceOf sl vl vu .none → IsPart vl lo → IsPart vu hi → r x lo hi H Q →
    ∃ T id, typeLookup (.type T) "__getitem__" = pure (some (.builtin id)) ∧ s.TypeIs v T ∧ wpAny (model X.prog X.w) X.A (getItem v (.ref sl)) (EP X pins σ Q) X.xe s
theorem SlR.or {r r' : V → Option Int → Option Int → Hp → VK → Prop} (h : SlR X r) (h' : SlR X r') : SlR X (fun x lo hi H Q => r x lo hi H Q ∨ r' x lo hi H Q) := by
  intro pins s σ H x v vl vu lo hi sl Q I rx hs pl pu q
  rcases q with q | q
  · exact h pins s σ H x v vl vu lo hi sl Q I rx hs pl pu q
  · exact h' pins s σ H x v vl vu lo hi sl Q I rx hs pl pu q
def tSl (r : V → Option Int → Option Int → Hp → VK → Prop) (te : TE) (tl th : TO) : TE := fun σ H Q => te σ H fun x H1 => tl σ H1 fun l H2 => th σ H2 fun u H3 => r x l u H3 Q
/-- a[lo:hi], any a -/
theorem pe_slice {r : V → Option Int → Option Int → Hp → VK → Prop} (hr : SlR X r) (he : PE X e te) (hl : PO X lo tl) (hu : PO X hi th) : PE X (.Subscript e (.Slice lo hi none p2) pos) (tSl r te tl th) := by
  intro pins s σ H Q I h
  refine Subscript_ (thn (he pins s σ H _ I h) fun v s1 ⟨x, H1, I1, r1, q1⟩ => ?_)
  refine wpAny_Slice (thn (hl pins s1 σ H1 _ I1 q1) fun vl s2 ⟨l, H2, I2, pl, q2⟩ => thn (hu pins s2 σ H2 _ I2 q2) fun vu s3 ⟨u, H3, I3, pu, q3⟩ => ?_)
  rw [evalPart_none]
  refine wpAny_pure ?_
  have I4 : Inv X pins σ H3 { s3 with heap := s3.heap.push { cls := .type "slice", data := .fields #[vl, vu, .none] } } := I3.kept (t' := s3.toks) fun b ob q => Heap.get?_push_of_some _ q
  obtain ⟨T, id, hT, ht, hg⟩ := hr pins { s3 with heap := s3.heap.push { cls := .type "slice", data := .fields #[vl, vu, .none] } } σ H3 x v vl vu l u s3.heap.objs.size Q I4 r1 (Heap.IsSliceOf.new ..) pl pu q3
  show wpAny (model X.prog X.w) X.A (subscriptTail e (.Slice lo hi none p2) v (.ref s3.heap.objs.size)) (EP X pins σ Q) X.xe { s3 with heap := s3.heap.push { cls := .type "slice", data := .fields #[vl, vu, .none] } }
  exact tail_any (ops := [.ref s3.heap.objs.size, v]) ht hT hg (by with_unfolding_all rfl)

/-- the items of xs[lo:hi] -/
def cutV (xs : List V) (lo hi : Option Int) : List V := (xs.drop (HT.sIx xs.length 0 lo)).take (HT.sIx xs.length xs.length hi - HT.sIx xs.length 0 lo)
theorem cutV_length (xs : List V) (lo hi : Option Int) : (cutV xs lo hi).length ≤ xs.length := by
  unfold cutV
  rw [List.length_take, List.length_drop]
  omega
/-- t[lo:hi], not the whole of it (the whole would be t itself) -/
def rSlT (K : PySem.W.Frag) : V → Option Int → Option Int → Hp → VK → Prop := fun x lo hi H Q => ∃ a xs, x = .ref a ∧ SqT K H a xs ∧
  ¬ (HT.sIx xs.length 0 lo = 0 ∧ HT.sIx xs.length xs.length hi = xs.length) ∧ ∀ p, H p = none → Q (.ref p) (upd H p (.tup (cutV xs lo hi)))
theorem sl_tup : SlR X (rSlT X.K) := by
  intro pins s σ H x v vl vu lo hi sl Q I rx hs pl pu h
  obtain ⟨a, xs, rfl, hx, hw, q⟩ := h
  cases rx
  obtain ⟨its, r, ht, hz⟩ := I.tuple hx
  have hlen : its.toArray.size = xs.length := by rw [List.size_toArray]; exact r.length.symm
  refine ⟨"tuple", _, PyProof.Rows.slot_tuple_getitem.lookup, ht.typeIs, ?_⟩
  refine HT.getItem_tuple_cut ht hs pl pu (by rw [hlen]; exact hw) ?_ (by rw [hlen]; exact hz)
  rw [hlen]
  refine ⟨.ref s.heap.objs.size, _, I.laid (t' := s.toks) (o := .tup (cutV xs lo hi)) (fun b ob q => Heap.get?_push_of_some _ q) (Nat.le_refl _) ?_, rfl, q _ (I.hok.fresh (Nat.le_refl _))⟩
  exact ⟨Nat.le_trans (cutV_length xs lo hi) hz, _, (r.drop (HT.sIx xs.length 0 lo)).take (HT.sIx xs.length xs.length hi - HT.sIx xs.length 0 lo), IsTup.new _ _⟩

/-! ### t < u, t + u -/
/-- t + u, t not empty: u empty gives t itself -/
def rCatT (K : PySem.W.Frag) : R2 := fun x y H Q => ∃ a b xs ys, x = .ref a ∧ y = .ref b ∧ SqT K H a xs ∧ SqT K H b ys ∧ xs ≠ [] ∧ xs.length + ys.length ≤ sizeLine ∧
  (ys = [] → Q (.ref a) H) ∧ (ys ≠ [] → ∀ p, H p = none → Q (.ref p) (upd H p (.tup (xs ++ ys))))
theorem Vals.nil_iff {xs : List V} {us : List Value} (r : Vals xs us) : us = [] ↔ xs = [] := by
  cases r with
  | nil => simp
  | cons _ _ => simp
theorem op_catT : OpR X (binaryOp .Add) (rCatT X.K) := by
  intro pins s σ H x y v u Q I rx ry h
  obtain ⟨a, b, xs, ys, rfl, rfl, ha, hb, hx, hz, q1, q2⟩ := h
  cases rx
  cases ry
  obtain ⟨its, r1, p1, _⟩ := I.tuple ha
  obtain ⟨its2, r2, p2, _⟩ := I.tuple hb
  refine HT.cat_tup p1 p2 (fun z => hx (r1.nil_iff.mp z)) (fun z => ⟨.ref a, H, I, rfl, q1 (r2.nil_iff.mp z)⟩) (fun z => ?_) (by rw [← r1.length, ← r2.length]; exact hz)
  refine ⟨.ref s.heap.objs.size, _, I.laid (t' := s.toks) (o := .tup (xs ++ ys)) (fun b ob q => Heap.get?_push_of_some _ q) (Nat.le_refl _) ?_, rfl, q2 (fun w => z (r2.nil_iff.mpr w)) _ (I.hok.fresh (Nat.le_refl _))⟩
  exact ⟨by rw [List.length_append]; exact hz, _, r1.append r2, IsTup.new _ _⟩
end
end L2

namespace L2
open PySem PySem.Spec PyProof.Rows

/-! ### places -/
/-- the place that an index of any sign means -/
def ixN (n : Nat) (i : Int) : Option Nat := if 0 ≤ i then (if i < n then some i.toNat else none) else if -(n : Int) ≤ i then some (i + n).toNat else none
def atI {α : Type} (xs : List α) (i : Int) : Option α := (ixN xs.length i).bind fun j => xs[j]?
theorem ixN_seq {n : Nat} {i : Int} {j : Nat} (h : ixN n i = some j) : seqIndex? i n = some j ∧ j < n ∧ -(n : Int) ≤ i ∧ i < n := by
  unfold ixN at h
  by_cases h0 : 0 ≤ i
  · rw [if_pos h0] at h
    by_cases h1 : i < n
    · rw [if_pos h1] at h
      have e : i.toNat = j := Option.some.inj h
      exact ⟨by rw [seqIndex_of h0 h1, e], by omega, by omega, h1⟩
    · rw [if_neg h1] at h; cases h
  · rw [if_neg h0] at h
    by_cases h1 : -(n : Int) ≤ i
    · rw [if_pos h1] at h
      have e : (i + n).toNat = j := Option.some.inj h
      exact ⟨by rw [seqIndex_neg (by omega) h1, e], by omega, h1, by omega⟩
    · rw [if_neg h1] at h; cases h
theorem atI_get {α : Type} {xs : List α} {i : Int} {v : α} (h : atI xs i = some v) : ∃ j, seqIndex? i xs.length = some j ∧ xs[j]? = some v ∧ j < xs.length ∧ -(xs.length : Int) ≤ i ∧ i < xs.length := by
  unfold atI at h
  cases e : ixN xs.length i with
  | none => rw [e] at h; cases h
  | some j =>
    rw [e] at h
    obtain ⟨h1, h2, h3, h4⟩ := ixN_seq e
    exact ⟨j, h1, h, h2, h3, h4⟩
theorem atI_nat {α : Type} {xs : List α} {j : Nat} {v : α} (h : xs[j]? = some v) : atI xs (j : Int) = some v := by
  have hj : j < xs.length := (List.getElem?_eq_some_iff.mp h).1
  have e : ixN xs.length (j : Int) = some j := by
    unfold ixN
    rw [if_pos (by omega), if_pos (by omega)]; simp
  unfold atI; rw [e]; exact h
/-! ### what may be subscripted -/
/-- what stands as an index of a plain subscript -/
def PlainIx (b : Expr) : Prop := ∀ o i, subscripted b false o i = operate [o, i] (getItem o i)
/-- a subscript by values -/
def IxR (X : Cx) (r : R2) : Prop :=
  ∀ (value slice : Expr) (pins : List (Addr × Obj)) (s : Shared) (σ : St) (H : Hp) (x y : V) (v u : Value) (Q : VK), Inv X pins σ H s → RelV x v → RelV y u → r x y H Q →
    subscripted slice false v u = operate [v, u] (getItem v u) → wpAny (model X.prog X.w) X.A (subscriptTail value slice v u) (EP X pins σ Q) X.xe s
/-- a call of a builtin's method by values: the receiver, the arguments -/
def MtR (X : Cx) (id : String) (r : V → List V → Hp → VK → Prop) : Prop :=
  ∀ (pins : List (Addr × Obj)) (s : Shared) (σ : St) (H : Hp) (x : V) (xs : List V) (v : Value) (us : List Value) (Q : VK), Inv X pins σ H s → RelV x v → Vals xs us → r x xs H Q →
    wpAny (model X.prog X.w) X.A (call (.builtin id) (v :: us)) (EP X pins σ Q) X.xe s
section
variable {X : Cx} {a b : Expr} {ta tb : TE} {pos : Pos}
theorem IxR.or {r r' : R2} (h : IxR X r) (h' : IxR X r') : IxR X (fun x y H Q => r x y H Q ∨ r' x y H Q) := by
  intro value slice pins s σ H x y v u Q I rx ry q hs
  rcases q with q | q
  · exact h value slice pins s σ H x y v u Q I rx ry q hs
  · exact h' value slice pins s σ H x y v u Q I rx ry q hs
theorem MtR.or {id : String} {r r' : V → List V → Hp → VK → Prop} (h : MtR X id r) (h' : MtR X id r') : MtR X id (fun x xs H Q => r x xs H Q ∨ r' x xs H Q) := by
  intro pins s σ H x xs v us Q I rx rs q
  rcases q with q | q
  · exact h pins s σ H x xs v us Q I rx rs q
  · exact h' pins s σ H x xs v us Q I rx rs q
/-- a[b] -/
theorem pe_ix {r : R2} (hr : IxR X r) (ha : PE X a ta) (hb : PE X b tb) (hs : PlainIx b) : PE X (.Subscript a b pos) (tOp r ta tb) := by
  intro pins s σ H Q I h
  exact Subscript_ (binT ha hb I h fun v u s2 x y H2 I2 rx ry q => hr a b pins s2 σ H2 x y v u Q I2 rx ry q (hs _ _))

def rIxL (K : PySem.W.Frag) : R2 := fun x y H Q => ∃ p xs i v, x = .ref p ∧ y = .int i ∧ SqL K H p xs ∧ atI xs i = some v ∧ Q v H
def rIxT (K : PySem.W.Frag) : R2 := fun x y H Q => ∃ p xs i v, x = .ref p ∧ y = .int i ∧ SqT K H p xs ∧ atI xs i = some v ∧ Q v H
def rIxS : R2 := fun x y H Q => ∃ z i c, x = .str z ∧ y = .int i ∧ z.length ≤ sizeLine ∧ atI z.cps.toList i = some c ∧ Q (.str ⟨#[c]⟩) H
theorem ix_list : IxR X (rIxL X.K) := by
  intro value slice pins s σ H x y v u Q I rx ry h hs
  obtain ⟨p, xs, i, z, rfl, rfl, hq, he, q⟩ := h
  cases rx
  obtain ⟨t, rfl⟩ := ry
  obtain ⟨its, r, pl, hz⟩ := I.list hq
  obtain ⟨j, h1, h2, h3, h4, h5⟩ := atI_get he
  obtain ⟨w, ew, rw'⟩ := r.get h2
  have hl := r.length
  have hn := line63
  have fin : EP X pins σ Q w s := ⟨z, H, I, rw', q⟩
  by_cases h0 : 0 ≤ i
  · have hj : i.toNat = j := by
      rw [seqIndex_of h0 h5] at h1
      exact Option.some.inj h1
    exact item_listR pl.isList h0 (by omega) (by rw [hj]; simpa using ew) fin hs
  · have hj : (i + (its.toArray.size : Int)).toNat = j := by
      rw [seqIndex_neg (by omega) h4] at h1
      rw [List.size_toArray, ← hl]
      exact Option.some.inj h1
    exact subscriptTail_builtinR (x := w) pl.isList.typeIs slot_list_getitem.lookup
      (wpAny_getItem_list_neg (Q := fun r s' => r = w ∧ EP X pins σ Q r s') pl.isList (by omega) (by rw [List.size_toArray] <;> omega) (by omega) (by rw [hj]; simpa using ew) ⟨rfl, fin⟩) hs
theorem ix_tup : IxR X (rIxT X.K) := by
  intro value slice pins s σ H x y v u Q I rx ry h hs
  obtain ⟨p, xs, i, z, rfl, rfl, hq, he, q⟩ := h
  cases rx
  obtain ⟨t, rfl⟩ := ry
  obtain ⟨its, r, pl, hz⟩ := I.tuple hq
  obtain ⟨j, h1, h2, h3, h4, h5⟩ := atI_get he
  obtain ⟨w, ew, rw'⟩ := r.get h2
  have hl := r.length
  have hn := line63
  have fin : EP X pins σ Q w s := ⟨z, H, I, rw', q⟩
  exact subscriptTail_builtinR (x := w) pl.typeIs slot_tuple_getitem.lookup
    (getItem_tuple (j := j) (Q := fun r s' => r = w ∧ EP X pins σ Q r s') pl (by omega) (by omega) (by rw [List.size_toArray, ← hl]; exact h1) (by simpa using ew) ⟨rfl, fin⟩) hs
theorem ix_str : IxR X rIxS := by
  intro value slice pins s σ H x y v u Q I rx ry h hs
  obtain ⟨z, i, c, rfl, rfl, hz, he, q⟩ := h
  obtain ⟨t, rfl⟩ := rx
  obtain ⟨t', rfl⟩ := ry
  obtain ⟨j, h1, h2, h3, h4, h5⟩ := atI_get he
  have hl : z.cps.toList.length = z.length := by simp [Str.length]
  rw [hl] at h1 h4 h5
  have hn := line63
  exact tail_any (typeIs_str s z t) slot_str_getitem.lookup (getItem_str (c := c) (by
    have e1 : decide (i < -(2 ^ 63 : Int)) = false := decide_eq_false (by omega)
    have e2 : decide (i ≥ 2 ^ 63) = false := decide_eq_false (by omega)
    rw [e1, e2, Bool.or_false]) (by rw [h1]; simpa using h2) ⟨.str ⟨#[c]⟩, H, I.tok _, ⟨_, rfl⟩, q⟩) hs
/-! ### xs[i] = v, any sign -/
theorem Inv.lst {pins : List (Addr × Obj)} {σ : St} {H : Hp} {s : Shared} {p : Addr} {xs : List V} (I : Inv X pins σ H s) (h : H p = some (.lst xs)) :
    ∃ (its : List Value) (n : Nat), Vals xs its ∧ s.heap.get? p = some { cls := .type "list", data := .seq its.toArray n } ∧ xs.length ≤ sizeLine := by
  obtain ⟨z, its, n, r, e⟩ := I.hok p _ h
  exact ⟨its, n, r, e, z⟩
/-! ### slices -/
theorem slice_bounds (lo hi : Option Int) (n : Nat) : (sliceBounds lo hi none n).1 = ((HT.sIx n 0 lo : Nat) : Int) ∧ (sliceBounds lo hi none n).2.1 = ((HT.sIx n n hi : Nat) : Int) ∧ (sliceBounds lo hi none n).2.2 = 1 := by
  refine ⟨?_, ?_, rfl⟩
  · cases lo with
    | none => simp [sliceBounds, HT.sIx]
    | some i =>
      simp only [sliceBounds, HT.sIx, Option.getD_none, show (1 : Int) > 0 by decide, if_true]
      by_cases h : i < 0
      · simp only [h, if_true] <;> omega
      · simp only [h, if_false] <;> omega
  · cases hi with
    | none => simp [sliceBounds, HT.sIx]
    | some i =>
      simp only [sliceBounds, HT.sIx, Option.getD_none, show (1 : Int) > 0 by decide, if_true]
      by_cases h : i < 0
      · simp only [h, if_true] <;> omega
      · simp only [h, if_false] <;> omega
theorem slicePick_cut (its : List Value) (lo hi : Option Int) : slicePick its.toArray lo hi none = ((its.drop (HT.sIx its.length 0 lo)).take (HT.sIx its.length its.length hi - HT.sIx its.length 0 lo)).toArray := by
  obtain ⟨h1, h2, h3⟩ := slice_bounds lo hi its.toArray.size
  unfold slicePick
  rw [h1, h2, h3]
  simp only [sliceRange_one, pick_run, List.size_toArray] <;> rfl
/-- xs[lo:hi] of a list: a new list -/
def rSlL (K : PySem.W.Frag) : V → Option Int → Option Int → Hp → VK → Prop := fun x lo hi H Q => ∃ a xs, x = .ref a ∧ SqL K H a xs ∧ ∀ p, H p = none → Q (.ref p) (upd H p (.lst (cutV xs lo hi)))
theorem sl_list : SlR X (rSlL X.K) := by
  intro pins s σ H x v vl vu lo hi sl Q I rx hs pl pu h
  obtain ⟨a, xs, rfl, hx, q⟩ := h
  cases rx
  obtain ⟨its, r, ht, hz⟩ := I.list hx
  have hlen := r.length
  refine ⟨"list", _, slot_list_getitem.lookup, ht.isList.typeIs, ?_⟩
  refine wpAny_getItem_list_slice ht.isList hs pl pu .none (by simp) ?_ (by rw [List.size_toArray] <;> omega)
  rw [slicePick_cut, ← hlen]
  refine ⟨.ref s.heap.objs.size, _, I.laid (t' := s.toks) (o := .lst (cutV xs lo hi)) (fun b ob q => Heap.get?_push_of_some _ q) (Nat.le_refl _) ?_, rfl, q _ (I.hok.fresh (Nat.le_refl _))⟩
  exact ⟨Nat.le_trans (cutV_length xs lo hi) hz, _, 0, (r.drop (HT.sIx xs.length 0 lo)).take (HT.sIx xs.length xs.length hi - HT.sIx xs.length 0 lo), Heap.get?_push_size _ rfl⟩

/-! ### in, not in: flat items -/
/-! ### len, list(x), tuple(x) of any list or tuple that is read -/
theorem call_len_seq : CallR X (.builtin "len") (fun xs H Q => ∃ p ys, xs = [.ref p] ∧ (SqL X.K H p ys ∨ SqT X.K H p ys) ∧ Q (.int ys.length) H) := by
  intro pins s σ H xs us Q I r h
  obtain ⟨p, ys, rfl, hq, q⟩ := h
  obtain ⟨u, rfl, rx⟩ := vals1 r
  cases rx
  have hn := line63
  rcases hq with hq | hq
  · obtain ⟨its, r', pl, hz⟩ := I.list hq
    have hlen := r'.length
    exact Calls.call_len_list pl.isList (by simp only [List.size_toArray] <;> omega) ⟨.int ys.length, H, I.tok _, ⟨s.toks + 1, by rw [List.size_toArray, hlen]⟩, q⟩
  · obtain ⟨its, r', pl, hz⟩ := I.tuple hq
    have hlen := r'.length
    exact len_tuple pl (by simp only [List.size_toArray] <;> omega) ⟨.int ys.length, H, I.tok _, ⟨s.toks + 1, by rw [List.size_toArray, hlen]⟩, q⟩
theorem call_len_str : CallR X (.builtin "len") (fun xs H Q => ∃ z, xs = [.str z] ∧ z.length ≤ sizeLine ∧ Q (.int z.length) H) := by
  intro pins s σ H xs us Q I r h
  obtain ⟨z, rfl, hz, q⟩ := h
  obtain ⟨u, rfl, t, rfl⟩ := vals1 r
  have hn := line63
  exact len_str (by omega) ⟨.int z.length, H, I.tok _, ⟨_, rfl⟩, q⟩
theorem CallR.or {f : Value} {r r' : List V → Hp → VK → Prop} (h : CallR X f r) (h' : CallR X f r') : CallR X f (fun xs H Q => r xs H Q ∨ r' xs H Q) := by
  intro pins s σ H xs us Q I rs q
  rcases q with q | q
  · exact h pins s σ H xs us Q I rs q
  · exact h' pins s σ H xs us Q I rs q
theorem call_list_of : CallR X (.type "list") (fun xs H Q => ∃ p ys, xs = [.ref p] ∧ (SqL X.K H p ys ∨ SqT X.K H p ys) ∧ ∀ l, H l = none → Q (.ref l) (upd H l (.lst ys))) := by
  intro pins s σ H xs us Q I r h
  obtain ⟨p, ys, rfl, hq, q⟩ := h
  obtain ⟨u, rfl, rx⟩ := vals1 r
  cases rx
  have fin : ∀ (its : List Value), Vals ys its → ys.length ≤ sizeLine → ∀ (h' : Heap) (c' : Nat), (∀ b o', s.heap.get? b = some o' → h'.get? b = some o') →
      h'.get? s.heap.objs.size = some { cls := .type "list", dict := none, data := .seq its.toArray c', slots := #[] } → EP X pins σ Q (.ref s.heap.objs.size) { s with heap := h' } := fun its r' hz h' c' kp e =>
    ⟨.ref s.heap.objs.size, _, I.laid (t' := s.toks) kp (Nat.le_refl _) (show ObjOk X.prog X.w _ h' _ (.lst ys) from ⟨hz, its, c', r', e⟩), rfl, q _ (I.hok.fresh (Nat.le_refl _))⟩
  rcases hq with hq | hq
  · obtain ⟨its, r', pl, hz⟩ := I.list hq
    have hlen := r'.length
    obtain ⟨o, ho, hc, n, hd⟩ := pl.isList
    exact call_list_seq p (.inl rfl) ho hc hd (fun h' c' kp e => fin its r' hz h' c' kp e) (by simp only [List.size_toArray] <;> omega)
  · obtain ⟨its, r', pl, hz⟩ := I.tuple hq
    have hlen := r'.length
    obtain ⟨o, ho, hc, n, hd⟩ := pl
    exact call_list_seq p (.inr rfl) ho hc hd (fun h' c' kp e => fin its r' hz h' c' kp e) (by simp only [List.size_toArray] <;> omega)
theorem call_tuple_of : CallR X (.type "tuple") (fun xs H Q => ∃ p ys, xs = [.ref p] ∧ ((SqL X.K H p ys ∧ ∀ l, H l = none → Q (.ref l) (upd H l (.tup ys))) ∨ (SqT X.K H p ys ∧ Q (.ref p) H))) := by
  intro pins s σ H xs us Q I r h
  obtain ⟨p, ys, rfl, h⟩ := h
  obtain ⟨u, rfl, rx⟩ := vals1 r
  cases rx
  rcases h with ⟨hq, q⟩ | ⟨hq, q⟩
  · obtain ⟨its, r', pl, hz⟩ := I.list hq
    have hlen := r'.length
    refine call_tuple_list pl.isList (fun h' kp => ?_) (by simp only [List.size_toArray] <;> omega)
    have I1 : Inv X pins σ H { s with heap := h' } := I.kept (t' := s.toks) kp
    have I2 : Inv X pins σ (upd H h'.objs.size (.tup ys)) { s with heap := h'.push { cls := .type "tuple", data := .seq its.toArray } } :=
      I1.laid (t' := s.toks) (fun b o e => Heap.get?_push_of_some _ e) (Nat.le_refl _) (show ObjOk X.prog X.w _ _ _ (.tup ys) from ⟨hz, its, r', IsTup.new _ _⟩)
    exact ⟨.ref h'.objs.size, _, I2, rfl, q _ (I1.hok.fresh (Nat.le_refl _))⟩
  · obtain ⟨its, r', pl, hz⟩ := I.tuple hq
    exact call_tuple_same pl ⟨.ref p, H, I, rfl, q⟩

/-! ### the call of a builtin's method: o.m(..) -/
/-- the value is of that builtin type -/
def tyV (K : PySem.W.Frag) (T : String) (x : V) (H : Hp) : Prop := match x with
  | .str _ => T = "str"
  | .int _ => T = "int"
  | .ref p => (T = "list" ∧ ∃ xs, SqL K H p xs) ∨ (T = "tuple" ∧ ∃ o, K.lookup p = some o ∧ o.cls = .type "tuple" ∧ o.dict = none) ∨
      (T = "dict" ∧ ((∃ kvs, H p = some (.dK kvs)) ∨ ∃ kvs, H p = some (.dT kvs))) ∨ (T = "set" ∧ ∃ S n, H p = some (.set S n))
  | _ => False
theorem tyV_is {pins : List (Addr × Obj)} {σ : St} {H : Hp} {s : Shared} {T : String} {x : V} {v : Value} (I : Inv X pins σ H s) (r : RelV x v) (ty : tyV X.K T x H) :
    s.TypeIs v T ∧ ∀ a, v = .ref a → ∃ ob, s.heap.get? a = some ob ∧ ob.dict = none := by
  cases x with
  | str z =>
    obtain ⟨t, rfl⟩ := r
    cases (show T = "str" from ty)
    exact ⟨typeIs_str s z t, fun _ e => nomatch e⟩
  | int i =>
    obtain ⟨t, rfl⟩ := r
    cases (show T = "int" from ty)
    exact ⟨typeIs_int s i t, fun _ e => nomatch e⟩
  | ref p =>
    cases r
    rcases ty with ⟨rfl, xs, hq⟩ | ⟨rfl, o, hk, hc, hd⟩ | ⟨rfl, hk⟩ | ⟨rfl, S, n, hk⟩
    · obtain ⟨its, _, pl, _⟩ := I.list hq
      refine ⟨pl.isList.typeIs, fun a e => ?_⟩
      cases e
      obtain ⟨o, n, e, c, hd, _⟩ := pl
      exact ⟨o, e, hd⟩
    · refine ⟨⟨o, I.kIn p o hk, hc⟩, fun a e => ?_⟩
      cases e
      exact ⟨o, I.kIn _ o hk, hd⟩
    · have z : ∃ o, s.heap.get? p = some o ∧ o.ExactDict := by
        rcases hk with ⟨kvs, hk⟩ | ⟨kvs, hk⟩
        · obtain ⟨_, _, _, _, o, _, _, e, ex, _⟩ := I.hok p _ hk
          exact ⟨o, e, ex⟩
        · obtain ⟨_, _, _, _, o, _, _, e, ex, _⟩ := I.hok p _ hk
          exact ⟨o, e, ex⟩
      obtain ⟨o, e, ex⟩ := z
      refine ⟨⟨o, e, ex.1⟩, fun a e2 => ?_⟩
      cases e2
      exact ⟨o, e, ex.2.1⟩
    · obtain ⟨o, _, _, _, e, ex, _⟩ := I.hok p _ hk
      refine ⟨⟨o, e, ex.1⟩, fun a e2 => ?_⟩
      cases e2
      exact ⟨o, e, ex.2.1⟩
  | _ => exact False.elim ty
def tBM (K : PySem.W.Frag) (T : String) (r : V → List V → Hp → VK → Prop) (to : TE) (t : TA) : TE := fun σ H Q => to σ H fun x H1 => tyV K T x H1 ∧ t σ H1 fun xs H2 => r x xs H2 Q
variable {o e : Expr} {es : List Expr} {to : TE} {t : TA} {name : Str} {apos cpos : Pos} {T id : String} {r : V → List V → Hp → VK → Prop}
theorem pe_bm (pa : PlainAttrs T) (slot : Slot T name id) (hty : typeOf (.builtin id) = pure (.type "method_descriptor")) (hm : MtR X id r) (ho : PE X o to) (ha : PA X (e :: es) t)
    (hbase : attributeBase o name X.env (eval o X.env) = eval o X.env := by rfl)
    (hfew : ((backTo cpos (starEach (e :: es) X.env)).all (fun x => !x.1) && (backToKw cpos (keywordEach [] X.env)).all (fun x => x.1.isSome)
      && decide ((e :: es).length + ([] : List Keyword).length + (if ([] : List Keyword).isEmpty then 0 else 1) < 30)) = true := by rfl)
    (hline : (apos.endLine == cpos.line) = true := by rfl) (hs : starEach (e :: es) X.env = (false, eval e X.env) :: starEach es X.env := by rfl) (hplain : (backTo cpos (starEach es X.env)).any (·.1) = false := by rfl) :
    PE X (.Call (.Attribute o name apos) (e :: es) [] cpos) (tBM X.K T r to t) := by
  intro pins s σ H Q I h
  refine wpAny_Call_method_late hbase hfew hline rfl (thn (ho pins s σ H _ I h) fun v s1 ⟨x, H1, I1, r1, ty, q1⟩ => ?_)
  obtain ⟨h1, h2⟩ := tyV_is I1 r1 ty
  refine ⟨T, id, pa, slot, hty, h1, h2, ?_⟩
  have hA := ha cpos pins s1 σ H1 _ I1 q1
  rw [hs] at hA ⊢
  refine Calls.callWith_builtin (by show (false || (backTo cpos (starEach es X.env)).any (·.1)) = false; rw [hplain] <;> rfl) (Calls.evalArgs_plain ?_)
  exact thn hA fun us s2 ⟨vs, H2, I2, r2, q2⟩ => hm pins s2 σ H2 x vs v us Q I2 r1 r2 q2
/- xs.append(e), list.index on a module's tuple .. are MtR facts of 06m -/
end
end L2

namespace L2
open PySem PySem.Spec PyProof.Rows

def MtM (X : Cx) (id : String) (r : V → List V → Hp → VK → Prop) : Prop :=
  ∀ (pins : List (Addr × Obj)) (s : Shared) (σ : St) (H : Hp) (x : V) (xs : List V) (v : Value) (us : List Value) (Q : VK), Inv X pins σ H s → RelV x v → Vals xs us → r x xs H Q →
    wpAny (model X.prog X.w) X.A (call (.builtin id) (v :: us)) (EP X pins σ Q) X.xe s

/-! ### lists of values -/
theorem Vals.one : ∀ {x : V} {us : List Value}, Vals [x] us → ∃ u, us = [u] ∧ RelV x u
  | _, _, .cons r .nil => ⟨_, rfl, r⟩
theorem Vals.two : ∀ {x y : V} {us : List Value}, Vals [x, y] us → ∃ u v, us = [u, v] ∧ RelV x u ∧ RelV y v
  | _, _, _, .cons r (.cons q .nil) => ⟨_, _, rfl, r, q⟩
theorem Vals.zero : ∀ {us : List Value}, Vals [] us → us = []
  | _, .nil => rfl
theorem Vals.reverse {xs : List V} {us : List Value} (h : Vals xs us) : Vals xs.reverse us.reverse := by
  induction h with
  | nil => exact .nil
  | cons r t ih => rw [List.reverse_cons, List.reverse_cons]; exact Vals.append ih (.cons r .nil)
theorem Vals.rep {xs : List V} {us : List Value} (h : Vals xs us) : ∀ k : Nat, Vals (List.replicate k xs).flatten (List.replicate k us).flatten
  | 0 => .nil
  | k + 1 => by
    rw [List.replicate_succ, List.replicate_succ, List.flatten_cons, List.flatten_cons]
    exact Vals.append h (Vals.rep h k)
theorem foldl_rep (its : List Value) : ∀ (k : Nat) (acc : List Value),
    List.foldl (fun x1 x2 => x1 ++ x2) acc.toArray (List.replicate k its.toArray) = (acc ++ (List.replicate k its).flatten).toArray
  | 0, acc => by simp
  | k + 1, acc => by
    have e : acc.toArray ++ its.toArray = (acc ++ its).toArray := by simp
    have e2 : (acc ++ its) ++ (List.replicate k its).flatten = acc ++ (List.replicate (k + 1) its).flatten := by
      rw [List.replicate_succ, List.flatten_cons, List.append_assoc]
    rw [← e2, ← foldl_rep its k (acc ++ its), ← e, List.replicate_succ, List.foldl_cons]

section
variable {X : Cx} {pins : List (Addr × Obj)} {σ : St} {H : Hp} {s : Shared} {l b : Addr} {xs ys zs : List V}

/-! ### the two steps: a tracked list is rewritten, a new list is laid -/
theorem Inv.lset {its its' : List Value} {n : Nat} {f : Array Value → Array Value} {t' : Nat} (I : Inv X pins σ H s) (hH : H l = some (.lst xs))
    (e : s.heap.get? l = some { cls := .type "list", data := .seq its.toArray n }) (hf : f its.toArray = its'.toArray) (hv : Vals ys its') (hz : ys.length ≤ sizeLine) :
    Inv X pins σ (upd H l (.lst ys)) { s with heap := s.heap.update l (Obj.mapSeq f), toks := t' } := by
  have q := PySem.IsL.update e f
  rw [hf] at q
  refine I.write (x := l) (e := l) (by rw [hH]; exact trivial) (.inl rfl) (fun b' u hb hu => (Heap.get?_update_other s.heap (Obj.mapSeq f) (Ne.symm hb)).trans hu) ⟨_, q⟩ ?_
  exact ⟨hz, its', _, hv, q⟩
theorem Inv.lnew {its : List Value} {t' : Nat} (I : Inv X pins σ H s) (hv : Vals ys its) (hz : ys.length ≤ sizeLine) :
    Inv X pins σ (upd H s.heap.objs.size (.lst ys)) { s with heap := s.heap.push { cls := .type "list", data := .seq its.toArray }, toks := t' } :=
  I.laid (fun _ _ q => Heap.get?_push_of_some _ q) (Nat.le_refl _) ⟨hz, its, 0, hv, Heap.get?_push_size _ rfl⟩
theorem Inv.fresh (I : Inv X pins σ H s) : H s.heap.objs.size = none := I.hok.fresh (Nat.le_refl _)
theorem Inv.lstM (I : Inv X pins σ H s) (hH : H l = some (.lst xs)) : xs.length ≤ sizeLine ∧ ∃ (its : List Value) (n : Nat), Vals xs its ∧ xs.length = its.length ∧ s.heap.get? l = some { cls := .type "list", data := .seq its.toArray n } := by
  obtain ⟨z, its, n, r, e⟩ := I.hok l _ hH
  exact ⟨z, its, n, r, r.length, e⟩

theorem notLongL {n : Nat} (h : n ≤ sizeLine) : Builtin.List.listTooLong n = false := by
  unfold Builtin.List.listTooLong
  exact decide_eq_false (by omega)
end

section
variable {X : Cx}

/-! ### methods -/
def rAppend : V → List V → Hp → VK → Prop := fun x vs H Q => ∃ l xs y, x = .ref l ∧ vs = [y] ∧ H l = some (.lst xs) ∧ xs.length < sizeLine ∧ Q .non (upd H l (.lst (xs ++ [y])))
theorem mt_append : MtM X "list.append" rAppend := by
  intro pins s σ H x vs v us Q I rx rv h
  obtain ⟨l, xs, y, rfl, rfl, hH, hz, q⟩ := h
  cases rx
  obtain ⟨u, rfl, ru⟩ := rv.one
  obtain ⟨z, its, n, r, hl, e⟩ := I.lstM hH
  refine call_meets F.slot_list_append ⟨_, e, rfl⟩ F.entry_list_append (F.args_list_append_2 _ _) (PySem.list_append l its.toArray n u (by rw [List.size_toArray]; omega)) ⟨e, ?_⟩
  refine ⟨.non, _, I.lset (its' := its ++ [u]) hH e (by simp) (r.append (.cons ru .nil)) ?_, rfl, q⟩
  rw [List.length_append, List.length_singleton]
  omega

/-! ### list + list, list += list, list * int -/
def rCat : R2 := fun x y H Q => ∃ l b xs zs, x = .ref l ∧ y = .ref b ∧ H l = some (.lst xs) ∧ H b = some (.lst zs) ∧ xs.length + zs.length ≤ sizeLine ∧ ∀ p, H p = none → Q (.ref p) (upd H p (.lst (xs ++ zs)))
theorem op_cat : OpR X (binaryOp .Add) rCat := by
  intro pins s σ H x y v u Q I rx ry h
  obtain ⟨l, b, xs, zs, rfl, rfl, hH, hB, hz, q⟩ := h
  cases rx
  cases ry
  obtain ⟨z, its, n, r, hl, e⟩ := I.lstM hH
  obtain ⟨z2, its2, n2, r2, hl2, e2⟩ := I.lstM hB
  refine PySem.P.add_list e e2 ?_ (by rw [List.size_toArray, List.size_toArray]; omega)
  have ea : its.toArray ++ its2.toArray = (its ++ its2).toArray := by simp
  rw [ea]
  exact ⟨.ref _, _, I.lnew (t' := s.toks) (r.append r2) (by rw [List.length_append]; omega), rfl, q _ I.fresh⟩
/-- a list times an int (a negative one is nothing) -/
def rRep : R2 := fun x y H Q => ∃ l k xs, x = .ref l ∧ y = .int k ∧ H l = some (.lst xs) ∧ -(2 ^ 63) ≤ k ∧ k < 2 ^ 63 ∧ xs.length * k.toNat ≤ sizeLine ∧
  ∀ p, H p = none → Q (.ref p) (upd H p (.lst (List.replicate k.toNat xs).flatten))
theorem len_rep {α : Type} (xs : List α) (k : Nat) : (List.replicate k xs).flatten.length = k * xs.length := by
  induction k with
  | zero => simp
  | succ k ih => rw [List.replicate_succ, List.flatten_cons, List.length_append, ih, Nat.succ_mul, Nat.add_comm]
theorem op_rep : OpR X (binaryOp .Mult) rRep := by
  intro pins s σ H x y v u Q I rx ry h
  obtain ⟨l, k, xs, rfl, rfl, hH, h1, h2, hz, q⟩ := h
  cases rx
  obtain ⟨t, rfl⟩ := ry
  obtain ⟨z, its, n, r, hl, e⟩ := I.lstM hH
  have hlen : its.toArray.size * k.toNat ≤ sizeLine := by rw [List.size_toArray, ← hl]; exact hz
  have hcap : ¬ its.toArray.size * k.toNat > (2 ^ 63 - 1) / 8 := by
    have : (sizeLine : Nat) ≤ (2 ^ 63 - 1) / 8 := by decide
    omega
  have hfit : ¬ (!Builtin.List.listFitsIndex k) = true := by
    rw [fitsIndex_both h1 h2]
    exact Bool.false_ne_true
  have hlong : ¬ Builtin.List.listTooLong (its.toArray.size * k.toNat) = true := by
    rw [notLongL hlen]
    exact Bool.false_ne_true
  have hnew : List.foldl (fun x1 x2 => x1 ++ x2) #[] (List.replicate (if its.toArray.isEmpty = true then 0 else k.toNat) its.toArray) = (List.replicate k.toNat its).flatten.toArray := by
    have f0 : ∀ m : Nat, List.foldl (fun x1 x2 => x1 ++ x2) #[] (List.replicate m its.toArray) = (List.replicate m its).flatten.toArray := fun m => by
      have := foldl_rep its m []
      rw [List.nil_append] at this
      exact this
    rw [f0]
    cases its with
    | nil => simp
    | cons a r' => rw [if_neg (by simp)]
  refine wpAny_binaryOp_repeat_ref (T := "list") (U := "int") (by decide) ⟨_, e, rfl⟩ (fun s' => typeIs_int s' k t) noFill_list_mul F.fills_int_mul F.slot_int_rmul repeat_list F.slot_int_index.lookup
    (call_meets F.slot_int_rmul (typeIs_int s k t) F.entry_int_rmul (F.args_int_rmul_2 _ _) (int___rmul___int_list k t l its.toArray n)
      ⟨e, rfl, ⟨_, e, rfl⟩, call_meets F.slot_list_mul ⟨_, e, rfl⟩ F.entry_list_mul (F.args_list_mul_2 _ _) (AutoListH.list___mul___list_int_3 l its.toArray n k t hfit hcap hlong) ⟨e, ?_⟩⟩)
  rw [hnew]
  exact ⟨.ref _, _, I.lnew (t' := s.toks) (r.rep k.toNat) (by rw [len_rep, Nat.mul_comm]; exact hz), rfl, q _ I.fresh⟩

/-! ### del xs[i] -/
end

/-! ### xs[a:b] = ys -/
section
variable {prog : Program} {w : World} {A : Around} {E : Value → Shared → Prop} {s : Shared}
end

section
variable {X : Cx}
end
end L2

namespace Att
open PySem PySem.W PySem.Calls PyProof.Rows

/-! ### the script -/
theorem ints_of_wellAll {P : Params} {h : Heap} : ∀ (ns : List Int) (vs : List Value), WellAll P h vs (ns.map WData.int) → IntsAre vs ns := by
  intro ns
  induction ns with
  | nil =>
    intro vs w
    rw [List.map_nil] at w
    cases w
    exact .nil
  | cons n ns ih =>
    intro vs w
    rw [List.map_cons] at w
    cases w with
    | cons a b =>
      cases a
      exact .cons _ _ (ih _ b)

theorem script_of {l : OpenLaw} {n : Nat} (hn : l.most = some n) {P : Params} {h : Heap} {args : List WData} {vals : List Value}
    (hpre : l.row.toRowW.claim.pre args = true) (hwl : WellAll P h vals args) :
    ∃ a vs ns, vals = [Value.ref a] ∧ args = [WData.list (ns.map WData.int)] ∧ h.get? a = some { cls := .type "list", data := .seq vs.toArray } ∧ IntsAre vs ns ∧ ns.length ≤ n := by
  have hsh : WShape.hasAll [] args [.list .int] = true := (pre_splitW hpre).1
  have hc : l.pre.holds [] { args := args } = true := (pre_splitW hpre).2
  obtain ⟨d, r, rfl, h1, h2⟩ := hasAllW_cons hsh
  obtain rfl := hasAllW_nil h2
  obtain ⟨xs, rfl, h3⟩ := hasW_list h1
  obtain ⟨ns, rfl⟩ := items_int h3
  have hlen : ns.length ≤ n := by
    unfold OpenLaw.pre at hc
    have h4 : (WTm.not (.lt (.lit (.int (n : Int))) (.len (.arg 0)))).holds [] { args := [.list (ns.map .int)] } = true := by
      have h4 := (holds_andW hc).1
      rw [hn] at h4
      exact h4
    have h5 := condW_of h4 (w_not (w_lt w_lit (w_len_list (w_arg rfl))))
    rw [List.length_map] at h5
    refine Nat.le_of_not_lt fun q => ?_
    have q' : (n : Int) < ((ns.length : Nat) : Int) := by omega
    first
      | (rw [decide_eq_true q'] at h5; exact absurd h5 (by decide))
      | (simp at h5; omega)
  cases hwl with
  | cons w1 w2 =>
    cases w2
    cases w1 with
    | list ho hall => exact ⟨_, _, ns, rfl, rfl, ho, ints_of_wellAll ns _ hall, hlen⟩

theorem post_true (l : OpenLaw) (args : List WData) : l.row.toRowW.claim.post args (.bool true) args = true :=
  postW_of (r := l.row.toRowW) (X := (true == true))
    (show WShape.has [] (.bool true) .bool = true by first | rfl | decide | simp [WShape.has, WShape.arms, WShape.armsAll])
    (show (WTm.eq .res (.lit (.bool true))).value [] { args := args, res := some (.bool true), after := args } = some (.bool (true == true)) from w_eq_bool (w_res rfl) w_lit) rfl

/-! ### the attachment: holds_open's last premise (the goal 'hc' behind k_head) from a wpAny of the law's body -/
/-- the same from a codeAny of the CALL (for a layer whose function contracts speak of calls) -/
theorem attach_call {l : OpenLaw} {n : Nat} {q : Program} {loose : List Str} {XP : (Str → Option Value) → Heap → Prop} {YP : World → Heap → Prop} {d : DefRec}
    (hn : l.most = some n) (hdf : d.params.defaults = [])
    (call : ∀ (w : World) (s₀ s₁ : Shared) (mg mb : Str → Option Value) (fa : Addr) (o : Obj) (pm cd doc : Value) (a : Addr) (vs : List Value) (ns : List Int),
      Ground q loose [] XP w s₀ mg mb s₁.heap → YP w s₁.heap →
      s₁.heap.get? fa = some o → o.data = .func (docDef d.name d.params d.body d.scope pm cd doc) → s₁.heap.CodeRec cd d.name → mg d.name = some (.ref fa) →
      s₁.heap.get? a = some { cls := .type "list", data := .seq vs.toArray } → IntsAre vs ns → ns.length ≤ n → s₁.gens = #[] →
      codeAny (model l.prog w) callerA (.call (.ref fa) ⟨[.ref a], []⟩) (fun r s' => r = .ok (.ret (.bool true)) ∧ OldK s₁.heap s'.heap ∧ s'.os = s₁.os ∧ AllBare s'.gens) s₁) :
    WalkO q loose XP YP l.row.toRowW d [] (fun f vs => PySem.call f vs) := by
  intro w s₀ s₁ mg mb G Y fa o pm cd doc dV kV ho hd hcd hD hmg hg args vals as hpre hlay hrd hwl hlo
  obtain rfl : dV = .none := Dflts.none hD hdf
  obtain rfl : kV = .none := Dflts.noKw hD
  obtain ⟨a, vs, ns, rfl, rfl, hobj, hints, hlen⟩ := script_of hn hpre hwl
  refine enter_call (codeAny_mono (call w s₀ s₁ mg mb fa o pm cd doc a vs ns G Y ho (fd_plain hd) hcd hmg hobj hints hlen hg) fun r s' hq => ?_)
  obtain ⟨rfl, h2, h3, h4⟩ := hq
  exact ⟨.inl ⟨.bool true, .bool true, [], rfl, fun _ => rfl, .bool true, post_true l _, fun _ => ⟨List.Pairwise.nil, fun _ hm => (nomatch hm)⟩⟩, h2, h3, h4⟩

/-! ### rules over ANY heap (no ledger) from facts about the written part K: the library's own take a ledger (News) for what they write -/
section
variable {prog : Program} {w : World} {A : Around} {E : Value → Shared → Prop} {s : Shared} {K : Frag}

/-! the whole heap as the ledger: makes every rule that writes through a ledger a rule over any heap -/
def ledger (h : Heap) (L d : Addr) : List (Addr × Obj) := (List.range h.objs.size).filterMap fun a => if a = L ∨ a = d then none else (h.get? a).map fun o => (a, o)
end
end Att

namespace L2
open PySem PySem.Spec PyProof.Rows

theorem vals_ints : ∀ {vs : List Value} {ns : List Int}, IntsAre vs ns → Vals (ns.map V.int) vs
  | _, _, .nil => .nil
  | _, _, .cons n t h => .cons ⟨t, rfl⟩ (vals_ints h)

/-- nothing is tracked but the script, known to the object (or it is an object of the module) -/
def Only (H : Hp) : Prop := ∀ b, H b = none ∨ ∃ o xs, H b = some (.frz o (.lst xs))

/-- THE HEAD: the law's promise, at the heap behind the top. F, the promise of the law's def, may use that base is part of the heap (so K.In base, base.Ns mainGlobals mg stand in Mod) -/
theorem law_call {P : Program} {w : World} {K : PySem.W.Frag} {mg mb : Str → Option Value} {CX : CXT} {k : Nat} {fa a : Addr} {fd : FuncData} {x : Str} {sp : Sp} {s₁ : Shared} {vs : List Value} {ns : List Int}
    (KX : K.In s₁.heap) (hns : s₁.heap.Ns mainGlobals mg) (hb : s₁.heap.Ns builtinsNs mb) (hbb : ∀ x : Str, x ≠ "__name__" → mb x = bootBuiltins x) (hlim : s₁.heap.NoLimit) (hg : s₁.gens = #[])
    (ha : s₁.heap.get? a = some { cls := .type "list", data := .seq vs.toArray }) (hi : IntsAre vs ns) (hl : ns.length ≤ sizeLine) (hr : Room k callerA)
    (F : ∀ base : Heap, K.In base → base.Ns mainGlobals mg → FnOk P w K mg base CX k fa fd [x] sp) (hbind : ∀ (s : Shared) (u : Value), BindsTo s fd ⟨[u], []⟩ [(x, u)])
    (hsp : ∀ H : Hp, Only H → SqL K H a (ns.map V.int) → sp [.ref a] H (fun v _ => v = .bl true) fun _ _ _ => False)
    (hCX : ∀ H e s', CX [] H s₁ (fun _ _ _ => False) e s' → False) :
    codeAny (model P w) callerA (.call (.ref fa) ⟨[.ref a], []⟩) (fun r s' => r = .ok (.ret (.bool true)) ∧ OldK s₁.heap s'.heap ∧ s'.os = s₁.os ∧ AllBare s'.gens) s₁ := by
  have rv := vals_ints hi
  have lenV := hi.length
  -- from an abstract heap in which nothing but the script may be tracked
  have core : ∀ H : Hp, Only H → SqL K H a (ns.map V.int) → HOk P w H s₁.heap → (∀ b, H b ≠ none → b = a) → (H a ≠ none → K.lookup a = none) →
      codeAny (model P w) callerA (.call (.ref fa) ⟨[.ref a], []⟩) (fun r s' => r = .ok (.ret (.bool true)) ∧ OldK s₁.heap s'.heap ∧ s'.os = s₁.os ∧ AllBare s'.gens) s₁ := by
    intro H hO hS hok hA hK
    have base_of : ∀ {b : Addr} {o : Obj}, s₁.heap.get? b = some o → H b = none → (hidT s₁.heap H).get? b = some o := fun e n => hidT_get e n
    have noA : ∀ {b : Addr} {o : Obj} {es : Array DictEntry} {ep : Nat}, s₁.heap.get? b = some o → o.data = .dict es ep → H b = none := fun {b o es ep} e d => by
      cases q : H b with
      | none => rfl
      | some u =>
        have e' : b = a := hA b (by rw [q]; simp)
        subst e'
        rw [ha] at e; cases e
        have d' : Data.seq vs.toArray _ = Data.dict es ep := d
        cases d'
    have nsK : ∀ {b : Addr} {m : Str → Option Value}, s₁.heap.Ns b m → (hidT s₁.heap H).Ns b m := fun {b m} ⟨o, es, ep, e, d, r⟩ => ⟨o, es, ep, base_of e (noA e d), d, r⟩
    have hKb : K.In (hidT s₁.heap H) := fun b o e => base_of (KX b o e) (by
      cases q : H b with
      | none => rfl
      | some u =>
        have e' : b = a := hA b (by rw [q]; simp)
        subst e'
        rw [hK (by rw [q]; simp)] at e; cases e)
    have hM : Mod K mg (hidT s₁.heap H) := ⟨hKb, nsK hns, ⟨mb, nsK hb, hbb⟩, let ⟨mc, h1, h2⟩ := hlim; ⟨mc, nsK h1, h2⟩⟩
    have e0 : Env0 P w K mg (hidT s₁.heap H) callerA [] s₁ H := ⟨rfl, hM, fun b o e => of_hidT e, Nat.le_of_eq (hidT_size _ _), trivial, fun b hb => absurd (show b ∈ ([] : List Addr) from hb) (by simp), hok, .of_eq hg⟩
    refine codeAny_mono ((F _ hKb (nsK hns)).run callerA [] s₁ H ⟨[.ref a], []⟩ [.ref a] [.ref a] _ _ hr e0 (hbind s₁ (.ref a)) (.cons rfl .nil) (hsp H hO hS)) fun r s' h => ?_
    cases r with
    | error e => exact (hCX H e s' h).elim
    | ok fl =>
      cases fl with
      | next => exact False.elim h
      | brk => exact False.elim h
      | cont => exact False.elim h
      | ret u =>
        obtain ⟨v, H', os, bare, un, hok', r', q⟩ := h
        have q' : v = .bl true := q
        subst q'
        obtain rfl : u = Value.bool true := r'
        refine ⟨rfl, OldK.of_keep fun b o e => ?_, os, bare⟩
        cases q : H b with
        | none => exact un.keep b o e q (by intro z; exact absurd (show b ∈ ([] : List Addr) from z) (by simp)) (by simp)
        | some u =>
          rcases hO b with z | ⟨ob, xs, z⟩
          · rw [q] at z; cases z
          · have z2 := un.frzs b ob _ z
            obtain ⟨e1, _⟩ := hok b _ z
            obtain ⟨e2, _⟩ := hok' b _ z2
            rw [e] at e1; cases e1
            exact e2
  cases hk : K.lookup a with
  | some o =>
    -- the script is one of the module's own objects
    have e := KX a o hk
    rw [ha] at e
    cases e
    refine core (fun _ => none) (fun _ => .inl rfl) (.inr ⟨_, vs.toArray, _, hk, rfl, rfl, rfl, by rw [List.size_toArray, lenV]; exact hl, by simpa using rv⟩) (fun b u z => by have z' : (none : Option HO) = some u := z; cases z') (fun b z => absurd rfl z) fun z => absurd rfl z
  | none =>
    refine core (fun b => if b = a then some (.frz { cls := .type "list", data := .seq vs.toArray } (.lst (ns.map V.int))) else none) (fun b => ?_) (.inl (.inr ⟨{ cls := .type "list", data := .seq vs.toArray }, if_pos rfl⟩)) (fun b u z => ?_) (fun b z => ?_) fun _ => hk
    · by_cases hb : b = a
      · exact .inr ⟨_, _, if_pos hb⟩
      · exact .inl (if_neg hb)
    · by_cases hb : b = a
      · have z' := (if_pos hb).symm.trans z
        cases z'
        subst hb
        exact ⟨ha, by rw [List.length_map]; exact hl, vs, _, rv, ha⟩
      · have z' := (if_neg hb).symm.trans z
        cases z'
    · by_cases hb : b = a
      · exact hb
      · exact absurd (if_neg hb) z
end L2

namespace L2
open PySem PySem.Spec PyProof.Rows

abbrev KOf {K : PySem.W.Frag} {h : Heap} (_ : K.In h) : PySem.W.Frag := K

/-- the goal that k_head leaves (case hc), from the law's promise. F gives the function object fd (K's own) once, then the promise over every base -/
theorem walk_of {l : PySem.W.OpenLaw} {n k : Nat} {q : Program} {loose : List Str} {XP : (Str → Option Value) → Heap → Prop} {YP : World → Heap → Prop} {d : DefRec} {K : Params → PySem.W.Frag} {CX : World → CXT} {sp : World → Sp} {x : Str}
    (hn : l.most = some n) (hn2 : n ≤ sizeLine) (hdf : d.params.defaults = []) (hr : Room k callerA)
    (hY : ∀ (w : World) (h : Heap), YP w h → (K w.params).In h)
    (F : ∀ (w : World) (mg : Str → Option Value) (fa : Addr) (h : Heap), (K w.params).In h → h.Ns mainGlobals mg → mg d.name = some (.ref fa) →
      ∃ fd : FuncData, (∀ (s : Shared) (u : Value), BindsTo s fd ⟨[u], []⟩ [(x, u)]) ∧
        ∀ base : Heap, (K w.params).In base → base.Ns mainGlobals mg → FnOk l.prog w (K w.params) mg base (CX w) k fa fd [x] (sp w))
    (hsp : ∀ (w : World) (H : Hp) (a : Addr) (ns : List Int), ns.length ≤ n → Only H → SqL (K w.params) H a (ns.map V.int) → sp w [.ref a] H (fun v _ => v = .bl true) fun _ _ _ => False)
    (hCX : ∀ (w : World) (H : Hp) (s : Shared) (e : Value) (s' : Shared), CX w [] H s (fun _ _ _ => False) e s' → False) :
    PySem.W.WalkO q loose XP YP l.row.toRowW d [] (fun f vs => PySem.call f vs) := by
  refine Att.attach_call hn hdf fun w s₀ s₁ mg mb fa o pm cd doc a vs ns G Y ho hd hcd hmg hobj hints hlen hg => ?_
  have KX := hY w _ Y
  obtain ⟨fd, hb, hF⟩ := F w mg fa _ KX G.T.g hmg
  exact law_call KX G.T.g G.T.b G.T.builtins G.T.nolimit hg hobj hints (Nat.le_trans hlen hn2) hr hF hb (fun H hO hS => hsp w H a ns hlen hO hS) fun H e s' => hCX w H s₁ e s'
end L2

/- THE LAST THEOREM (shape; LID, My.* are yours):
   My.Adr: a structure of the addresses that your layer names (classes, functions); My.Txt K t: a structure (Prop) of the equations over K;
   My.txt_mk : {K} {implicit addresses ..} (e1 : nsIn K mainGlobals "law" = some (some (.ref f))) (e2 : K.lookup f = some ⟨oc, od, .func (fnOf "law" "law" params body scope dV kV doc pm an cdv ct), sl⟩) (e3 : codeIn K cdv "law" = true) .. : ∃ t, My.Txt K t

set_option maxRecDepth 100000 in
set_option maxHeartbeats 0 in
theorem PySem.Challenge.cw_LID_holds : PySem.Challenge.rw_LID.Holds := by
  w_on; o_law; k_head; (case hw => w_witness2)
  k_fill
  refine L2.walk_of (l := PySem.Challenge.rw_LID) (n := 63) (k := 40) (x := "script") (CX := fun w => ..) (sp := fun _ => My.sp_law) rfl (by decide) rfl ⟨rfl, by decide, by decide⟩ (fun w h Y => PySem.W.kIn_of Y) ?F ?S ?C
  case F =>
    intro w mg fa h KX G hmg
    have T : ∃ t, My.Txt (L2.KOf KX) t := by
      dsimp only [L2.KOf]                          -- K must stand as «<heap const> w.params» for k_is
      refine' My.txt_mk ?e1 ?e2 ?e3 ..
      (case e1 => PySem.W.k_is)                    -- in the order: a name -> its address -> its object -> its parts
      (case e2 => PySem.W.k_is)
      ..
    obtain ⟨t, T⟩ := T
    have e0 := hmg.symm.trans (PySem.W.mg_of KX G T.law)
    cases e0                                       -- fa is the law's own address
    exact ⟨_, fun s u => .of_eq rfl, fun base kb nb => My.law_fn T kb nb⟩     -- if «.of_eq rfl» comes too early: refine' ⟨_, ?b, fun base kb nb => My.law_fn T kb nb⟩; exact fun s u => .of_eq rfl
  case S => exact fun w H a ns hl hO hS => ..
  case C => exact ..
(the tactic k_is has no namespace: write k_is) -/

/-! SHORT WORDS over the layer: a def of the text, its body, what a loop and a test want. -/
namespace L2
open PySem PySem.Spec PyProof.Rows

/-! ### the text by places -/
def defArgs (s : Stmt) : Arguments := match s with
  | .FunctionDef _ a _ _ _ _ _ _ _ _ => a
  | _ => { posonlyargs := [], args := [], vararg := none, kwonlyargs := [], kw_defaults := [], kwarg := none, defaults := [] }
def defBody (s : Stmt) : List Stmt := match s with
  | .FunctionDef _ _ b _ _ _ _ _ _ _ => b
  | _ => []
def defScope (s : Stmt) : Scope := match s with
  | .FunctionDef _ _ _ _ _ _ sc _ _ _ => sc
  | _ => { kind := .function, names := [], isGenerator := false, isCoroutine := false }

/-! ### no exception leaves a def -/
abbrev CX0 : CXT := fun _ _ _ _ _ _ => False
abbrev E0 : XK := fun _ _ _ => False
/-! ### a def (or method) of the text as it stands behind the top -/
structure Fun (K : PySem.W.Frag) (x qual : Str) (st : Stmt) (f : Addr) (fd : FuncData) : Prop where
  ex : ∃ (oc : Value) (od : Option Addr) (kV doc pm : Value) (an : Option Addr) (cdv ct : Value) (osl : Array (Option Value)),
    fd = PySem.W.fnOf x qual (defArgs st) (defBody st) (defScope st) .none kV doc pm an cdv ct ∧ K.lookup f = some ⟨oc, od, .func fd, osl⟩ ∧ PySem.W.codeIn K cdv qual = true
  kp : PySem.W.keepIn K (.ref f) = true
section
variable {P : Program} {w : World} {K : PySem.W.Frag} {mg : Str → Option Value} {base : Heap}
/-- THE RULE for a def: its body as a term of rules, and the reading of that term -/
theorem Fun.ok {x qual : Str} {st : Stmt} {f : Addr} {fd : FuncData} {N ps : List Str} {k : Nat} {sp : Sp} (F : Fun K x qual st f fd) (S : FnScope N ps (defScope st)) (len : ∀ vs H Q E, sp vs H Q E → vs.length = ps.length)
    (hbody : ∀ (cdv : Value) (A : Around) (outer : List Env) (s : Shared) (H : Hp) (vs : List V) (Q : VK) (E : XK), Room k (A.deeper (envOfC qual (defScope st) s.heap.objs.size f cdv)) → sp vs H Q E →
      ∃ t, PSs (cxOf CX0 P w K mg base N qual (defScope st) f cdv A outer s H E).nox (defBody st) t ∧ t { nx := fun _ H' => Q .non H', rt := Q } (start N vs) H) : FnOk P w K mg base CX0 (k + 1) f fd ps sp := by
  obtain ⟨oc, od, kV, doc, pm, an, cdv, ct, osl, rfl, lk, hcd⟩ := F.ex
  refine fn_of lk hcd S len fun A outer s H vs Q E hr hsp => ?_
  obtain ⟨t, h, q⟩ := hbody cdv A outer s H vs Q E hr hsp
  exact ⟨t, h.nox, q⟩
/-- how its arguments bind (no defaults): h is «fun _ _ _ _ _ _ us hl => match us, hl with | [_, _], _ => rfl», one _ a parameter -/
theorem Fun.binds {x qual : Str} {st : Stmt} {f : Addr} {fd : FuncData} {ps : List Str} (F : Fun K x qual st f fd)
    (h : ∀ (kV doc pm : Value) (an : Option Addr) (cdv ct : Value) (us : List Value), us.length = ps.length → bindArgs (PySem.W.fnOf x qual (defArgs st) (defBody st) (defScope st) .none kV doc pm an cdv ct) ⟨us, []⟩ = pure (ps.zip us)) : Binds K fd ps [] := by
  obtain ⟨oc, od, kV, doc, pm, an, cdv, ct, osl, rfl, lk, hcd⟩ := F.ex
  exact .all (h kV doc pm an cdv ct)
theorem fun_mk {x qual : Str} {st : Stmt} {f : Addr} {oc : Value} {od an : Option Addr} {osl : Array (Option Value)} {kV doc pm cdv ct : Value} (l : K.lookup f = some ⟨oc, od, .func (PySem.W.fnOf x qual (defArgs st) (defBody st) (defScope st) .none kV doc pm an cdv ct), osl⟩)
    (c : PySem.W.codeIn K cdv qual = true) (k : PySem.W.keepIn K (.ref f) = true) : Fun K x qual st f (PySem.W.fnOf x qual (defArgs st) (defBody st) (defScope st) .none kV doc pm an cdv ct) := ⟨⟨oc, od, kV, doc, pm, an, cdv, ct, osl, rfl, l, c⟩, k⟩
end
/-! ### expressions in short: the name that stands in the i-th slot -/
section
variable {X : Cx}
theorem pv (i : Nat) {x : Str} {pos : Pos} (hN : X.N[i]? = some x := by rfl) (hv : Vis X.env.scope x := by first | exact Or.inl rfl | exact Or.inr (Or.inl rfl) | exact Or.inr (Or.inr rfl)) (hd : (x == ("__debug__" : Str)) = false := by decide)
    (hcd : (x == ("__classdict__" : Str)) = false := by decide) : PE X (.Name x pos) (tVar i) := pe_var hN hv hd hcd
end

/-! ### tests -/
/-! ### heaps -/
/-- all that was tracked is as it was -/
def Same (H H' : Hp) : Prop := ∀ b o, H b = some o → H' b = some o
theorem Same.refl (H : Hp) : Same H H := fun _ _ h => h
theorem Same.trans {H H1 H2 : Hp} (a : Same H H1) (b : Same H1 H2) : Same H H2 := fun c o h => b c o (a c o h)
theorem Same.free {H H' : Hp} (e : Same H H') {l : Addr} (h : H' l = Option.none) : H l = Option.none := by
  cases q : H l with
  | none => rfl
  | some o =>
    rw [e l o q] at h
    cases h
theorem Same.seq {K : PySem.W.Frag} {H H' : Hp} {a : Addr} {xs : List V} (e : Same H H') (h : SqL K H a xs) : SqL K H' a xs := by
  rcases h with (h | ⟨o, h⟩) | h
  · exact .inl (.inl (e _ _ h))
  · exact .inl (.inr ⟨o, e _ _ h⟩)
  · exact .inr h

end L2


namespace L2
open PySem PySem.Spec PyProof.Rows

/-! ### lists of pairs as tables -/
section
variable {κ : Type} [DecidableEq κ]
def valV (kvs : List (κ × V)) (k : κ) : Option V := (kvs.find? fun kv => decide (kv.1 = k)).map (·.2)
/-- in its place, or at the end -/
def putK (kvs : List (κ × V)) (k : κ) (v : V) : List (κ × V) :=
  if (kvs.any fun kv => decide (kv.1 = k)) = true then kvs.map (fun kv => if kv.1 = k then (kv.1, v) else kv) else kvs ++ [(k, v)]
def dropK (kvs : List (κ × V)) (k : κ) : List (κ × V) := kvs.filter fun kv => decide (kv.1 ≠ k)

theorem valV_pos {p : κ × V} {r : List (κ × V)} {k : κ} (e : p.1 = k) : valV (p :: r) k = some p.2 := by simp [valV, List.find?_cons, e]
theorem valV_neg {p : κ × V} {r : List (κ × V)} {k : κ} (e : ¬ p.1 = k) : valV (p :: r) k = valV r k := by simp [valV, List.find?_cons, e]
theorem valV_any (k : κ) : ∀ kvs : List (κ × V), (kvs.any fun kv => decide (kv.1 = k)) = (valV kvs k).isSome
  | [] => rfl
  | p :: r => by
    rw [List.any_cons]
    by_cases e : p.1 = k
    · simp only [valV_pos e, decide_eq_true e, Bool.true_or, Option.isSome_some]
    · rw [valV_neg e, decide_eq_false e, Bool.false_or]; exact valV_any k r
theorem RelO.isSome_eq {o : Option V} {u : Option Value} (r : RelO o u) : o.isSome = u.isSome := by
  cases o with
  | none => cases u with
    | none => rfl
    | some _ => exact (show False from r).elim
  | some _ => cases u with
    | none => exact (show False from r).elim
    | some _ => rfl
theorem RelO.getD {o : Option V} {u : Option Value} {d : V} {d' : Value} (r : RelO o u) (rd : RelV d d') : RelV (o.getD d) (u.getD d') := by
  cases o with
  | none => cases u with
    | none => exact rd
    | some _ => exact (show False from r).elim
  | some _ => cases u with
    | none => exact (show False from r).elim
    | some _ => exact r

/-- raw tables of the same keys -/
theorem KV.val {kvs : List (κ × V)} {vs : List (κ × Value)} (r : KV kvs vs) (k : κ) : RelO (valV kvs k) (valueAt vs k) := by
  unfold KV at r
  induction r with
  | nil => exact True.intro
  | @cons p q ps qs h t ih =>
    obtain ⟨h1, h2⟩ := h
    by_cases e : p.1 = k
    · have e' : q.1 = k := h1.symm.trans e
      have b : valueAt (q :: qs) k = some q.2 := by simp [valueAt, List.find?_cons, e']
      rw [valV_pos e, b]; exact h2
    · have e' : ¬ q.1 = k := fun z => e (h1.trans z)
      have b : valueAt (q :: qs) k = valueAt qs k := by simp [valueAt, List.find?_cons, e']
      rw [valV_neg e, b]; exact ih
theorem KV.any {kvs : List (κ × V)} {vs : List (κ × Value)} (r : KV kvs vs) (k : κ) : (kvs.any fun kv => decide (kv.1 = k)) = vs.any fun kv => decide (kv.1 = k) := by
  unfold KV at r
  induction r with
  | nil => rfl
  | cons h t ih => rw [List.any_cons, List.any_cons, ih, h.1]
theorem KV.repl {kvs : List (κ × V)} {vs : List (κ × Value)} (r : KV kvs vs) (k : κ) {y : V} {u : Value} (ry : RelV y u) :
    KV (kvs.map fun kv => if kv.1 = k then (kv.1, y) else kv) (vs.map fun kv => if kv.1 = k then (kv.1, u) else kv) := by
  unfold KV at r ⊢
  induction r with
  | nil => exact .nil
  | @cons p q ps qs h t ih =>
    rw [List.map_cons, List.map_cons]
    refine .cons ?_ ih
    obtain ⟨h1, h2⟩ := h
    by_cases e : p.1 = k
    · rw [if_pos e, if_pos (h1.symm.trans e)]; exact ⟨h1, ry⟩
    · rw [if_neg e, if_neg (fun z => e (h1.trans z))]; exact ⟨h1, h2⟩
theorem KV.put {kvs : List (κ × V)} {vs : List (κ × Value)} (r : KV kvs vs) (k : κ) {y : V} {u : Value} (ry : RelV y u) : KV (putK kvs k y) (stored vs k u) := by
  unfold putK stored
  rw [r.any k]
  by_cases e : (vs.any fun kv => decide (kv.1 = k)) = true
  · rw [if_pos e, if_pos e]; exact r.repl k ry
  · rw [if_neg e, if_neg e]; exact Paired.snoc r ⟨rfl, ry⟩
theorem KV.drop {kvs : List (κ × V)} {vs : List (κ × Value)} (r : KV kvs vs) (k : κ) : KV (dropK kvs k) (without vs k) := by
  unfold KV at r ⊢
  unfold dropK without
  induction r with
  | nil => exact .nil
  | @cons p q ps qs h t ih =>
    obtain ⟨h1, h2⟩ := h
    rw [List.filter_cons, List.filter_cons]
    by_cases e : p.1 = k
    · have a : ¬ decide (p.1 ≠ k) = true := by simp [e]
      have b : ¬ decide (q.1 ≠ k) = true := by simp [h1.symm.trans e]
      rw [if_neg a, if_neg b]; exact ih
    · have e' : ¬ q.1 = k := fun z => e (h1.trans z)
      have a : decide (p.1 ≠ k) = true := by simp [e]
      have b : decide (q.1 ≠ k) = true := by simp [e']
      rw [if_pos a, if_pos b]; exact .cons ⟨h1, h2⟩ ih
theorem KV.keys {kvs : List (κ × V)} {vs : List (κ × Value)} (r : KV kvs vs) : kvs.map (·.1) = vs.map (·.1) := by
  unfold KV at r
  induction r with
  | nil => rfl
  | cons h t ih => rw [List.map_cons, List.map_cons, ih, h.1]
theorem KV.length {kvs : List (κ × V)} {vs : List (κ × Value)} (r : KV kvs vs) : kvs.length = vs.length := Paired.length r
end


/-! ### a tracked dict, its keys ints and texts or tuples of these -/
/-- raw entries of a dict with tuple keys -/
abbrev KT (H : Hp) : List (List Key × V) → List (List Key × Addr × Value) → Prop := Paired fun p q => p.1 = q.1 ∧ H q.2.1 = some (.tup (p.1.map kV)) ∧ RelV p.2 q.2.2
theorem KT.val {H : Hp} {kvs : List (List Key × V)} {xs : List (List Key × Addr × Value)} (r : KT H kvs xs) (k : List Key) : RelO (valV kvs k) ((atKey xs k).map (·.2)) := by
  induction r with
  | nil => exact True.intro
  | @cons p q ps qs h t ih =>
    obtain ⟨h1, _, h2⟩ := h
    by_cases e : p.1 = k
    · have e' : q.1 = k := h1.symm.trans e
      have b : atKey (q :: qs) k = some q.2 := by simp [atKey, List.find?_cons, e']
      rw [valV_pos e, b]; exact h2
    · have e' : ¬ q.1 = k := fun z => e (h1.trans z)
      have b : atKey (q :: qs) k = atKey qs k := by simp [atKey, List.find?_cons, e']
      rw [valV_neg e, b]; exact ih
theorem KT.repl {H : Hp} {kvs : List (List Key × V)} {xs : List (List Key × Addr × Value)} (r : KT H kvs xs) (k : List Key) {y : V} {u : Value} (ry : RelV y u) :
    KT H (kvs.map fun kv => if kv.1 = k then (kv.1, y) else kv) (xs.map (putAt k u)) := by
  induction r with
  | nil => exact .nil
  | @cons p q ps qs h t ih =>
    rw [List.map_cons, List.map_cons]
    refine .cons ?_ ih
    obtain ⟨h1, h2, h3⟩ := h
    unfold putAt
    by_cases e : p.1 = k
    · rw [if_pos e, if_pos (h1.symm.trans e)]; exact ⟨h1, h2, ry⟩
    · rw [if_neg e, if_neg (fun z => e (h1.trans z))]; exact ⟨h1, h2, h3⟩
theorem KT.put {H : Hp} {kvs : List (List Key × V)} {xs : List (List Key × Addr × Value)} (r : KT H kvs xs) (k : List Key) {b : Addr} {y : V} {u : Value} (hb : H b = some (.tup (k.map kV))) (ry : RelV y u) :
    KT H (putK kvs k y) (storedH xs k b u) := by
  have e : (kvs.any fun kv => decide (kv.1 = k)) = (atKey xs k).isSome := by
    rw [valV_any, (r.val k).isSome_eq, Option.isSome_map]
  unfold putK storedH
  rw [e]
  by_cases q : (atKey xs k).isSome = true
  · rw [if_pos q, if_pos q]; exact r.repl k ry
  · rw [if_neg q, if_neg q]; exact Paired.snoc r ⟨rfl, hb, ry⟩
theorem KT.keeps {H H' : Hp} {kvs : List (List Key × V)} {xs : List (List Key × Addr × Value)} (r : KT H kvs xs) (ht : ∀ b ys, H b = some (.tup ys) → H' b = some (.tup ys)) : KT H' kvs xs :=
  Paired.mapP r fun _ _ z => ⟨z.1, ht _ _ z.2.1, z.2.2⟩

section
variable {P : Program} {w : World} {H : Hp} {h : Heap} {a : Addr}
end

/-- what the dict at a holds at the key y -/
def DGet (H : Hp) (a : Addr) (y : V) (r : Option V) : Prop :=
  (∃ kvs k, Rd H a (.dK kvs) ∧ y = kV k ∧ r = valV kvs k) ∨ ∃ kvs k b, Rd H a (.dT kvs) ∧ y = .ref b ∧ H b = some (.tup (k.map kV)) ∧ r = valV kvs k
/-- the heap behind a[y] = v -/
def DPut (H : Hp) (a : Addr) (y v : V) (H' : Hp) : Prop :=
  (∃ kvs k, H a = some (.dK kvs) ∧ y = kV k ∧ kvs.length < sizeLine ∧ H' = upd H a (.dK (putK kvs k v))) ∨
  ∃ kvs k b, H a = some (.dT kvs) ∧ y = .ref b ∧ H b = some (.tup (k.map kV)) ∧ kvs.length < sizeLine ∧ H' = upd H a (.dT (putK kvs k v))
theorem DGet.k {H : Hp} {a : Addr} {kvs : List (Key × V)} {k : Key} (e : H a = some (.dK kvs)) : DGet H a (kV k) (valV kvs k) := .inl ⟨kvs, k, .inl e, rfl, rfl⟩
theorem DGet.t {H : Hp} {a b : Addr} {kvs : List (List Key × V)} {k : List Key} (e : H a = some (.dT kvs)) (eb : H b = some (.tup (k.map kV))) : DGet H a (.ref b) (valV kvs k) := .inr ⟨kvs, k, b, .inl e, rfl, eb, rfl⟩
theorem DPut.k {H : Hp} {a : Addr} {kvs : List (Key × V)} {k : Key} {v : V} (e : H a = some (.dK kvs)) (hl : kvs.length < sizeLine) : DPut H a (kV k) v (upd H a (.dK (putK kvs k v))) := .inl ⟨kvs, k, e, rfl, hl, rfl⟩
theorem DPut.t {H : Hp} {a b : Addr} {kvs : List (List Key × V)} {k : List Key} {v : V} (e : H a = some (.dT kvs)) (eb : H b = some (.tup (k.map kV))) (hl : kvs.length < sizeLine) :
    DPut H a (.ref b) v (upd H a (.dT (putK kvs k v))) := .inr ⟨kvs, k, b, e, rfl, eb, hl, rfl⟩


section
variable {X : Cx} {pins : List (Addr × Obj)} {σ : St} {H : Hp} {s : Shared} {a : Addr} {y v : V} {u r : Value} {o : Option V} {A : Around} {E : Value → Shared → Prop}

end

section
variable {X : Cx} {pins : List (Addr × Obj)} {σ : St} {H : Hp} {s : Shared} {a : Addr} {kvs : List (Key × V)} {k : Key} {u : Value} {A : Around} {E : Value → Shared → Prop}
end


/-! ### readings and rules -/
section
variable {X : Cx} {o i e value : Expr} {pos pos' tpos : Pos} {td ty tv : TE}
end


/-! ### displays -/
section
variable {X : Cx} {pos : Pos}
end

/-! ### methods -/
/-- a method call o.m(e) of a built-in, with one argument: what must be seen of the text -/
structure M1 (X : Cx) (o : Expr) (m : Str) (apos : Pos) (e : Expr) (cpos : Pos) : Prop where
  base : attributeBase o m X.env (eval o X.env) = eval o X.env
  few : ((backTo cpos (starEach [e] X.env)).all (fun x => !x.1) && (backToKw cpos (keywordEach [] X.env)).all (fun x => x.1.isSome)
    && decide (([e] : List Expr).length + ([] : List Keyword).length + (if ([] : List Keyword).isEmpty then 0 else 1) < 30)) = true
  line : (apos.endLine == cpos.line) = true
  trees : backTo cpos (starEach [e] X.env) = [(false, eval e X.env)]
structure M2 (X : Cx) (o : Expr) (m : Str) (apos : Pos) (e f : Expr) (cpos : Pos) : Prop where
  base : attributeBase o m X.env (eval o X.env) = eval o X.env
  few : ((backTo cpos (starEach [e, f] X.env)).all (fun x => !x.1) && (backToKw cpos (keywordEach [] X.env)).all (fun x => x.1.isSome)
    && decide (([e, f] : List Expr).length + ([] : List Keyword).length + (if ([] : List Keyword).isEmpty then 0 else 1) < 30)) = true
  line : (apos.endLine == cpos.line) = true
  trees : backTo cpos (starEach [e, f] X.env) = [(false, eval e X.env), (false, eval f X.env)]

section
variable {X : Cx} {pins : List (Addr × Obj)} {σ : St} {H : Hp} {s : Shared} {a : Addr} {y d : V} {u r : Value} {o : Option V} {A : Around} {E : Value → Shared → Prop}
end

section
variable {X : Cx} {o e f : Expr} {apos cpos : Pos} {td ty tx : TE}
end

/-! ### dict(d): a copy -/
section
variable {X : Cx} {pins : List (Addr × Obj)} {σ : St} {H : Hp} {s : Shared} {a : Addr} {kvs : List (Key × V)} {A : Around} {E : Value → Shared → Prop}
end


section
variable {X : Cx} {pins : List (Addr × Obj)} {σ : St} {H : Hp} {s : Shared} {a : Addr} {y : V} {u : Value} {A : Around} {E : Value → Shared → Prop}
end
end L2

set_option Elab.async false
set_option linter.all false
set_option maxRecDepth 100000
/-! THE PURE LAYER: deep values, the reading of an expression as a pure function of the frame's deep values -/
namespace L3
open PySem PySem.Spec L2
open PyProof.Rows hiding St

/-- a result, or an own exception by its number -/
inductive Rs (α : Type) where
  | ok (a : α) | ex (n : Nat)
def M (α : Type) := Option (Rs α)
def M.ret {α : Type} (a : α) : M α := some (.ok a)
def M.bind {α β : Type} (m : M α) (k : α → M β) : M β := match m with
  | none => none
  | some (.ex n) => some (.ex n)
  | some (.ok a) => k a
def M.stuck {α : Type} : M α := none
def M.raise {α : Type} (n : Nat) : M α := some (.ex n)
instance : Monad M where
  pure := M.ret
  bind := M.bind
@[simp] theorem bind_ret {α β : Type} (a : α) (k : α → M β) : (M.ret a >>= k) = k a := rfl
@[simp] theorem bind_pure' {α β : Type} (a : α) (k : α → M β) : ((pure a : M α) >>= k) = k a := rfl
@[simp] theorem bind_raise {α β : Type} (n : Nat) (k : α → M β) : (M.raise n >>= k) = M.raise n := rfl
@[simp] theorem bind_stuck {α β : Type} (k : α → M β) : ((M.stuck : M α) >>= k) = M.stuck := rfl

theorem M.cs {α : Type} (m : M α) : m = M.stuck ∨ (∃ n, m = M.raise n) ∨ ∃ a, m = M.ret a := by
  match m with
  | none => exact .inl rfl
  | some (.ex n) => exact .inr (.inl ⟨n, rfl⟩)
  | some (.ok a) => exact .inr (.inr ⟨a, rfl⟩)
theorem ret_inj {α : Type} {a b : α} (h : M.ret a = M.ret b) : a = b := by
  have h : some (Rs.ok a) = some (Rs.ok b) := h
  cases h
  rfl
theorem stuck_ne {α : Type} {a : α} (h : M.stuck = M.ret a) : False := by
  have h : none = some (Rs.ok a) := h
  cases h
theorem raise_ne {α : Type} {n : Nat} {a : α} (h : M.raise n = M.ret a) : False := by
  have h : some (Rs.ex n) = some (Rs.ok a) := h
  cases h
theorem bind_ok {α β : Type} {m : M α} {k : α → M β} {r : β} (h : (m >>= k) = M.ret r) : ∃ a, m = M.ret a ∧ k a = M.ret r := by
  rcases m.cs with e | ⟨n, e⟩ | ⟨a, e⟩
  · subst e; exact (stuck_ne h).elim
  · subst e; exact (raise_ne h).elim
  · subst e; exact ⟨a, rfl, h⟩

/-- the object at ea is an exception of the class at D, and stays -/
def IsExc (h : Heap) (ea D : Addr) : Prop := ∃ ox, h.get? ea = some ox ∧ ox.cls = .ref D
/-- tracked as any other thing -/
def ExO (ea D : Addr) : HO := .ext fun h => IsExc h ea D
/-- a deep value -/
inductive D where
  | non | bl (b : Bool) | int (i : Int) | str (x : Str) | raw (v : V) | exc (C : Addr) | scr (l : List Int) | tup (l : List D) | lst (l : List D)
  /-- a dict whose keys are tuples; one whose keys are ints and texts -/
  | dct (ks : List (List Key)) (l : List D) | dci (ks : List Key) (l : List D)
instance : Inhabited D := ⟨.non⟩
/-- sizes that are kept to -/
def lim : Nat := 4096
theorem lim_lt : lim < sizeLine := by rw [sizeLine_eq]; decide

mutual
def Den (K : PySem.W.Frag) (F : Hp) : D → V → Prop
  | .non, v => v = .non
  | .bl b, v => v = .bl b
  | .int i, v => v = .int i
  | .str x, v => v = .str x ∧ x.length ≤ lim
  | .raw u, v => v = u
  | .exc C, v => ∃ ea, v = .ref ea ∧ F ea = some (ExO ea C)
  | .scr ns, v => ∃ a, v = .ref a ∧ SqL K F a (ns.map V.int) ∧ ns.length ≤ lim
  | .tup ds, v => ∃ a vs, v = .ref a ∧ F a = some (.tup vs) ∧ DenL K F ds vs ∧ ds.length ≤ lim
  | .lst ds, v => ∃ a vs, v = .ref a ∧ F a = some (.lst vs) ∧ DenL K F ds vs ∧ ds.length ≤ lim
  | .dct ks ds, v => ∃ a vs, v = .ref a ∧ F a = some (.dT (ks.zip vs)) ∧ DenL K F ds vs ∧ ks.length = ds.length ∧ ds.length ≤ lim
  | .dci ks ds, v => ∃ a vs, v = .ref a ∧ F a = some (.dK (ks.zip vs)) ∧ DenL K F ds vs ∧ ks.length = ds.length ∧ ds.length ≤ lim
def DenL (K : PySem.W.Frag) (F : Hp) : List D → List V → Prop
  | [], vs => vs = []
  | d :: ds, vs => ∃ v r, vs = v :: r ∧ Den K F d v ∧ DenL K F ds r
end

theorem Same.rd {H H' : Hp} {a : Addr} {u : HO} (e : Same H H') (h : Rd H a u) : Rd H' a u := by
  rcases h with h | ⟨o, h⟩
  · exact .inl (e _ _ h)
  · exact .inr ⟨o, e _ _ h⟩
theorem Same.tup {K : PySem.W.Frag} {H H' : Hp} {a : Addr} {xs : List V} (e : Same H H') (h : SqT K H a xs) : SqT K H' a xs := by
  rcases h with h | h
  · exact .inl (Same.rd e h)
  · exact .inr h
section
variable {K : PySem.W.Frag} {F F' : Hp}
mutual
theorem Den.mono (e : Same F F') : ∀ {d : D} {v : V}, Den K F d v → Den K F' d v
  | .non, _, h => h
  | .bl _, _, h => h
  | .int _, _, h => h
  | .str _, _, h => h
  | .raw _, _, h => h
  | .exc _, _, ⟨a, h1, h2⟩ => ⟨a, h1, e _ _ h2⟩
  | .scr _, _, ⟨a, h1, h2, h3⟩ => ⟨a, h1, Same.seq e h2, h3⟩
  | .tup _, _, ⟨a, vs, h1, h2, h3, h4⟩ => ⟨a, vs, h1, e _ _ h2, DenL.mono e h3, h4⟩
  | .lst _, _, ⟨a, vs, h1, h2, h3, h4⟩ => ⟨a, vs, h1, e _ _ h2, DenL.mono e h3, h4⟩
  | .dct _ _, _, ⟨a, vs, h1, h2, h3, h4⟩ => ⟨a, vs, h1, e _ _ h2, DenL.mono e h3, h4⟩
  | .dci _ _, _, ⟨a, vs, h1, h2, h3, h4⟩ => ⟨a, vs, h1, e _ _ h2, DenL.mono e h3, h4⟩
theorem DenL.mono (e : Same F F') : ∀ {ds : List D} {vs : List V}, DenL K F ds vs → DenL K F' ds vs
  | [], _, h => h
  | _ :: _, _, ⟨v, r, h1, h2, h3⟩ => ⟨v, r, h1, Den.mono e h2, DenL.mono e h3⟩
end
theorem DenL.nil : DenL K F [] [] := rfl
theorem DenL.cons {d : D} {v : V} {ds : List D} {vs : List V} (h : Den K F d v) (r : DenL K F ds vs) : DenL K F (d :: ds) (v :: vs) := ⟨v, vs, rfl, h, r⟩
theorem DenL.len : ∀ {ds : List D} {vs : List V}, DenL K F ds vs → ds.length = vs.length
  | [], _, h => by cases (show _ = _ from h); rfl
  | _ :: ds, _, ⟨v, r, h1, _, h3⟩ => by subst h1; rw [List.length_cons, List.length_cons, DenL.len h3]
theorem DenL.get : ∀ {ds : List D} {vs : List V} {i : Nat} {d : D}, DenL K F ds vs → ds[i]? = some d → ∃ v, vs[i]? = some v ∧ Den K F d v
  | [], _, _, _, _, e => by simp at e
  | d :: ds, _, 0, _, ⟨v, r, h1, h2, h3⟩, e => by subst h1; simp at e; subst e; exact ⟨v, rfl, h2⟩
  | d :: ds, _, i + 1, _, ⟨v, r, h1, h2, h3⟩, e => by
    subst h1
    obtain ⟨w, e1, e2⟩ := DenL.get (i := i) h3 (by simpa using e)
    exact ⟨w, by simpa using e1, e2⟩
theorem DenL.at : ∀ {ds : List D} {vs : List V} {i : Nat} {v : V}, DenL K F ds vs → vs[i]? = some v → ∃ d, ds[i]? = some d ∧ Den K F d v
  | [], _, _, _, h, e => by cases (show _ = _ from h); simp at e
  | d :: ds, _, 0, _, ⟨v, r, h1, h2, h3⟩, e => by subst h1; simp at e; subst e; exact ⟨d, rfl, h2⟩
  | d :: ds, _, i + 1, _, ⟨v, r, h1, h2, h3⟩, e => by
    subst h1
    obtain ⟨w, e1, e2⟩ := DenL.at (i := i) h3 (by simpa using e)
    exact ⟨w, by simpa using e1, e2⟩
theorem DenL.append : ∀ {ds es : List D} {vs ws : List V}, DenL K F ds vs → DenL K F es ws → DenL K F (ds ++ es) (vs ++ ws)
  | [], _, _, _, h, h' => by cases (show _ = _ from h); exact h'
  | d :: ds, _, _, _, ⟨v, r, h1, h2, h3⟩, h' => by subst h1; exact ⟨v, _, rfl, h2, DenL.append h3 h'⟩
theorem DenL.take : ∀ {ds : List D} {vs : List V} (n : Nat), DenL K F ds vs → DenL K F (ds.take n) (vs.take n)
  | _, _, 0, _ => by simp [List.take]; rfl
  | [], _, _ + 1, h => by cases (show _ = _ from h); rfl
  | d :: ds, _, n + 1, ⟨v, r, h1, h2, h3⟩ => by subst h1; exact ⟨v, _, rfl, h2, DenL.take n h3⟩
theorem DenL.drop : ∀ {ds : List D} {vs : List V} (n : Nat), DenL K F ds vs → DenL K F (ds.drop n) (vs.drop n)
  | _, _, 0, h => by simpa using h
  | [], _, _ + 1, h => by cases (show _ = _ from h); rfl
  | d :: ds, _, n + 1, ⟨v, r, h1, h2, h3⟩ => by subst h1; exact DenL.drop n h3
theorem DenL.reverse : ∀ {ds : List D} {vs : List V}, DenL K F ds vs → DenL K F ds.reverse vs.reverse
  | [], _, h => by cases (show _ = _ from h); rfl
  | d :: ds, _, ⟨v, r, h1, h2, h3⟩ => by
    subst h1
    rw [List.reverse_cons, List.reverse_cons]
    exact DenL.append (DenL.reverse h3) (.cons h2 .nil)
theorem DenL.ints (ns : List Int) : DenL K F (ns.map D.int) (ns.map V.int) := by
  induction ns with
  | nil => rfl
  | cons n ns ih => exact .cons rfl ih
end

/-- nothing that stands is changed; what is frozen anew is new -/
structure Ext (F H F' H' : Hp) : Prop where
  hh : Same H H'
  ff : Same F F'
  fh : Same F' H'
  new : ∀ a, H a ≠ none → F' a = F a
theorem Ext.refl {F H : Hp} (h : Same F H) : Ext F H F H := ⟨Same.refl _, Same.refl _, h, fun _ _ => rfl⟩
theorem Ext.trans {F H F' H' F'' H'' : Hp} (a : Ext F H F' H') (b : Ext F' H' F'' H'') : Ext F H F'' H'' :=
  ⟨a.hh.trans b.hh, a.ff.trans b.ff, b.fh, fun c hc => by
    have : H' c ≠ none := by
      cases q : H c with
      | none => exact absurd q hc
      | some o => rw [a.hh c o q]; exact fun z => nomatch z
    rw [b.new c this, a.new c hc]⟩
/-- a new object, frozen at once -/
theorem Ext.lay {F H : Hp} {a : Addr} {o : HO} (h : Same F H) (n : H a = none) : Ext F H (upd F a o) (upd H a o) := by
  have nf : F a = none := Same.free h n
  refine ⟨fun b u e => ?_, fun b u e => ?_, fun b u e => ?_, fun b hb => ?_⟩
  · rw [upd_ne (ne_of_none e n)]; exact e
  · rw [upd_ne (ne_of_none e nf)]; exact e
  · by_cases q : b = a
    · subst q; rw [upd_same] at e ⊢; exact e
    · rw [upd_ne q] at e ⊢; exact h b u e
  · exact upd_ne fun z => hb (by rw [z]; exact n)
/-- a new object, not frozen -/
theorem Ext.free {F H : Hp} {a : Addr} {o : HO} (h : Same F H) (n : H a = none) : Ext F H F (upd H a o) :=
  ⟨fun b u e => by rw [upd_ne (ne_of_none e n)]; exact e, Same.refl _, fun b u e => by rw [upd_ne (ne_of_none (h b u e) n)]; exact h b u e, fun _ _ => rfl⟩

/-- what a run of m at F, H leads to: Q of the value, or Xw of the exception's number -/
def WP (K : PySem.W.Frag) (Xw : Nat → Hp → Prop) (F H : Hp) (m : M D) (Q : VK) : Prop :=
  match m with
  | none => False
  | some (.ok d) => ∀ v H' F', Ext F H F' H' → Den K F' d v → Q v H'
  | some (.ex n) => ∀ F' H', Ext F H F' H' → Xw n H'
def WPL (K : PySem.W.Frag) (Xw : Nat → Hp → Prop) (F H : Hp) (m : M (List D)) (Q : List V → Hp → Prop) : Prop :=
  match m with
  | none => False
  | some (.ok ds) => ∀ vs H' F', Ext F H F' H' → DenL K F' ds vs → Q vs H'
  | some (.ex n) => ∀ F' H', Ext F H F' H' → Xw n H'
def WPB (Xw : Nat → Hp → Prop) (F H : Hp) (m : M Bool) (Q : Bool → Hp → Prop) : Prop :=
  match m with
  | none => False
  | some (.ok b) => ∀ H' F', Ext F H F' H' → Q b H'
  | some (.ex n) => ∀ F' H', Ext F H F' H' → Xw n H'
section
variable {K : PySem.W.Frag} {Xw : Nat → Hp → Prop} {F F' H H' : Hp} {Q : VK}
theorem WP.ext {m : M D} (e : Ext F H F' H') (h : WP K Xw F H m Q) : WP K Xw F' H' m Q := by
  match m, h with
  | none, h => exact h
  | some (.ok d), h => exact fun v H2 F2 e2 q => h v H2 F2 (e.trans e2) q
  | some (.ex n), h => exact fun F2 H2 e2 => h F2 H2 (e.trans e2)
theorem WPL.ext {m : M (List D)} {Q : List V → Hp → Prop} (e : Ext F H F' H') (h : WPL K Xw F H m Q) : WPL K Xw F' H' m Q := by
  match m, h with
  | none, h => exact h
  | some (.ok d), h => exact fun v H2 F2 e2 q => h v H2 F2 (e.trans e2) q
  | some (.ex n), h => exact fun F2 H2 e2 => h F2 H2 (e.trans e2)
theorem WPB.ext {m : M Bool} {Q : Bool → Hp → Prop} (e : Ext F H F' H') (h : WPB Xw F H m Q) : WPB Xw F' H' m Q := by
  match m, h with
  | none, h => exact h
  | some (.ok d), h => exact fun H2 F2 e2 => h H2 F2 (e.trans e2)
  | some (.ex n), h => exact fun F2 H2 e2 => h F2 H2 (e.trans e2)
theorem WP.fin {d : D} {v : V} (h : WP K Xw F H (M.ret d) Q) (e : Ext F H F' H') (q : Den K F' d v) : Q v H' := h v H' F' e q
theorem WP.now {d : D} {v : V} (h : WP K Xw F H (M.ret d) Q) (s : Same F H) (q : Den K F d v) : Q v H := h v H F (Ext.refl s) q
/-- one part after the other -/
theorem WP.bind {m : M D} {k : D → M D} (h : WP K Xw F H (m >>= k) Q) : WP K Xw F H m fun v H1 => ∃ F1 d, Ext F H F1 H1 ∧ Den K F1 d v ∧ WP K Xw F1 H1 (k d) Q := by
  match m, h with
  | none, h => exact h
  | some (.ok d), h => exact fun v H2 F2 e2 q => ⟨F2, d, e2, q, WP.ext e2 (show WP K Xw F H (k d) Q from h)⟩
  | some (.ex n), h => exact h
theorem WP.bindL {m : M (List D)} {k : List D → M D} (h : WP K Xw F H (m >>= k) Q) : WPL K Xw F H m fun vs H1 => ∃ F1 ds, Ext F H F1 H1 ∧ DenL K F1 ds vs ∧ WP K Xw F1 H1 (k ds) Q := by
  match m, h with
  | none, h => exact h
  | some (.ok d), h => exact fun v H2 F2 e2 q => ⟨F2, d, e2, q, WP.ext e2 (show WP K Xw F H (k d) Q from h)⟩
  | some (.ex n), h => exact h
theorem WP.bindB {m : M Bool} {k : Bool → M D} (h : WP K Xw F H (m >>= k) Q) : WPB Xw F H m fun b H1 => ∃ F1, Ext F H F1 H1 ∧ WP K Xw F1 H1 (k b) Q := by
  match m, h with
  | none, h => exact h
  | some (.ok d), h => exact fun H2 F2 e2 => ⟨F2, e2, WP.ext e2 (show WP K Xw F H (k d) Q from h)⟩
  | some (.ex n), h => exact h
theorem WPB.bind {m : M D} {k : D → M Bool} {Q : Bool → Hp → Prop} (h : WPB Xw F H (m >>= k) Q) : WP K Xw F H m fun v H1 => ∃ F1 d, Ext F H F1 H1 ∧ Den K F1 d v ∧ WPB Xw F1 H1 (k d) Q := by
  match m, h with
  | none, h => exact h
  | some (.ok d), h => exact fun v H2 F2 e2 q => ⟨F2, d, e2, q, WPB.ext e2 (show WPB Xw F H (k d) Q from h)⟩
  | some (.ex n), h => exact h
theorem WPB.bindB {m : M Bool} {k : Bool → M Bool} {Q : Bool → Hp → Prop} (h : WPB Xw F H (m >>= k) Q) : WPB Xw F H m fun b H1 => ∃ F1, Ext F H F1 H1 ∧ WPB Xw F1 H1 (k b) Q := by
  match m, h with
  | none, h => exact h
  | some (.ok d), h => exact fun H2 F2 e2 => ⟨F2, e2, WPB.ext e2 (show WPB Xw F H (k d) Q from h)⟩
  | some (.ex n), h => exact h
theorem WPL.bind {m : M D} {k : D → M (List D)} {Q : List V → Hp → Prop} (h : WPL K Xw F H (m >>= k) Q) : WP K Xw F H m fun v H1 => ∃ F1 d, Ext F H F1 H1 ∧ Den K F1 d v ∧ WPL K Xw F1 H1 (k d) Q := by
  match m, h with
  | none, h => exact h
  | some (.ok d), h => exact fun v H2 F2 e2 q => ⟨F2, d, e2, q, WPL.ext e2 (show WPL K Xw F H (k d) Q from h)⟩
  | some (.ex n), h => exact h
theorem WPL.bindL {m : M (List D)} {k : List D → M (List D)} {Q : List V → Hp → Prop} (h : WPL K Xw F H (m >>= k) Q) : WPL K Xw F H m fun vs H1 => ∃ F1 ds, Ext F H F1 H1 ∧ DenL K F1 ds vs ∧ WPL K Xw F1 H1 (k ds) Q := by
  match m, h with
  | none, h => exact h
  | some (.ok d), h => exact fun v H2 F2 e2 q => ⟨F2, d, e2, q, WPL.ext e2 (show WPL K Xw F H (k d) Q from h)⟩
  | some (.ex n), h => exact h
theorem WP.mono {m : M D} {Q' : VK} (h : WP K Xw F H m Q) (k : ∀ v H', Q v H' → Q' v H') : WP K Xw F H m Q' := by
  match m, h with
  | none, h => exact h
  | some (.ok d), h => exact fun v H2 F2 e2 q => k _ _ (h v H2 F2 e2 q)
  | some (.ex n), h => exact h
theorem WPL.mono {m : M (List D)} {Q Q' : List V → Hp → Prop} (h : WPL K Xw F H m Q) (k : ∀ v H', Q v H' → Q' v H') : WPL K Xw F H m Q' := by
  match m, h with
  | none, h => exact h
  | some (.ok d), h => exact fun v H2 F2 e2 q => k _ _ (h v H2 F2 e2 q)
  | some (.ex n), h => exact h
theorem WPB.mono {m : M Bool} {Q Q' : Bool → Hp → Prop} (h : WPB Xw F H m Q) (k : ∀ v H', Q v H' → Q' v H') : WPB Xw F H m Q' := by
  match m, h with
  | none, h => exact h
  | some (.ok d), h => exact fun H2 F2 e2 => k _ _ (h H2 F2 e2)
  | some (.ex n), h => exact h
end

/-! ### the frame's deep values -/
/-- a container that its own frame may still change: a list -/
inductive C where
  | lst (l : List D) | dct (ks : List (List Key)) (l : List D) | dci (ks : List Key) (l : List D)
def C.d : C → D
  | .lst ds => .lst ds
  | .dct ks ds => .dct ks ds
  | .dci ks ds => .dci ks ds
inductive Sl where
  | fz (d : D) | ow (c : C)
abbrev Rho := List (Option Sl)
def DenC (K : PySem.W.Frag) (F : Hp) : C → HO → Prop
  | .lst ds, o => ∃ vs, o = .lst vs ∧ DenL K F ds vs ∧ ds.length ≤ lim
  | .dct ks ds, o => ∃ vs, o = .dT (ks.zip vs) ∧ DenL K F ds vs ∧ ks.length = ds.length ∧ ds.length ≤ lim
  | .dci ks ds, o => ∃ vs, o = .dK (ks.zip vs) ∧ DenL K F ds vs ∧ ks.length = ds.length ∧ ds.length ≤ lim
theorem DenC.mono {K : PySem.W.Frag} {F F' : Hp} (e : Same F F') : ∀ {c : C} {o : HO}, DenC K F c o → DenC K F' c o
  | .lst _, _, ⟨vs, h1, h2, h3⟩ => ⟨vs, h1, DenL.mono e h2, h3⟩
  | .dct _ _, _, ⟨vs, h1, h2, h3⟩ => ⟨vs, h1, DenL.mono e h2, h3⟩
  | .dci _ _, _, ⟨vs, h1, h2, h3⟩ => ⟨vs, h1, DenL.mono e h2, h3⟩
/-- what is let be -/
theorem DenC.den {K : PySem.W.Frag} {F : Hp} {a : Addr} : ∀ {c : C} {o : HO}, DenC K F c o → Same F (upd F a o) → Den K (upd F a o) c.d (.ref a)
  | .lst _, _, ⟨vs, h1, h2, h3⟩, e => by subst h1; exact ⟨a, vs, rfl, upd_same, DenL.mono e h2, h3⟩
  | .dct _ _, _, ⟨vs, h1, h2, h3⟩, e => by subst h1; exact ⟨a, vs, rfl, upd_same, DenL.mono e h2, h3⟩
  | .dci _ _, _, ⟨vs, h1, h2, h3⟩, e => by subst h1; exact ⟨a, vs, rfl, upd_same, DenL.mono e h2, h3⟩
def DenO (K : PySem.W.Frag) (F H : Hp) : Sl → V → Prop
  | .fz d, v => Den K F d v
  | .ow c, v => ∃ a o, v = .ref a ∧ H a = some o ∧ F a = none ∧ DenC K F c o
/-- the names' values -/
structure StE (K : PySem.W.Frag) (F H : Hp) (σ : St) (ρ : Rho) : Prop where
  fh : Same F H
  den : ∀ (i : Nat) (sl : Sl), ρ[i]? = some (some sl) → ∃ v, σ[i]? = some (some v) ∧ DenO K F H sl v
theorem DenO.ext {K : PySem.W.Frag} {F H F' H' : Hp} (e : Ext F H F' H') : ∀ {sl : Sl} {v : V}, DenO K F H sl v → DenO K F' H' sl v
  | .fz _, _, h => Den.mono e.ff h
  | .ow _, _, ⟨a, o, h1, h2, h3, h4⟩ => ⟨a, o, h1, e.hh _ _ h2, by rw [e.new a (by rw [h2]; exact fun z => nomatch z)]; exact h3, DenC.mono e.ff h4⟩
theorem StE.ext {K : PySem.W.Frag} {F H F' H' : Hp} {σ : St} {ρ : Rho} (s : StE K F H σ ρ) (e : Ext F H F' H') : StE K F' H' σ ρ :=
  ⟨e.fh, fun i sl q => let ⟨v, h1, h2⟩ := s.den i sl q; ⟨v, h1, h2.ext e⟩⟩

/-- an expression's reading by a pure function -/
abbrev DE := Rho → M D
abbrev DT := Rho → M Bool
abbrev DA := Rho → M (List D)
def tD (K : PySem.W.Frag) (Xw : Nat → Hp → Prop) (δ : DE) : TE := fun σ H Q => ∃ F ρ, StE K F H σ ρ ∧ WP K Xw F H (δ ρ) Q
def tDT (K : PySem.W.Frag) (Xw : Nat → Hp → Prop) (δ : DT) : TT := fun σ H Q => ∃ F ρ, StE K F H σ ρ ∧ WPB Xw F H (δ ρ) Q
def tDA (K : PySem.W.Frag) (Xw : Nat → Hp → Prop) (δ : DA) : TA := fun σ H Q => ∃ F ρ, StE K F H σ ρ ∧ WPL K Xw F H (δ ρ) Q
def PD (X : Cx) (Xw : Nat → Hp → Prop) (e : Expr) (δ : DE) : Prop := PE X e (tD X.K Xw δ)
def PDT (X : Cx) (Xw : Nat → Hp → Prop) (e : Expr) (δ : DT) : Prop := PT X e (tDT X.K Xw δ)
def PDA (X : Cx) (Xw : Nat → Hp → Prop) (es : List Expr) (δ : DA) : Prop := PA X es (tDA X.K Xw δ)
theorem PE.weak {X : Cx} {e : Expr} {t t' : TE} (h : PE X e t) (k : ∀ σ H Q, t' σ H Q → t σ H Q) : PE X e t' := fun pins s σ H Q I w => h pins s σ H Q I (k σ H Q w)
theorem PT.weak {X : Cx} {e : Expr} {t t' : TT} (h : PT X e t) (k : ∀ σ H Q, t' σ H Q → t σ H Q) : PT X e t' := fun pins s σ H Q I w => h pins s σ H Q I (k σ H Q w)
theorem PA.weak {X : Cx} {e : List Expr} {t t' : TA} (h : PA X e t) (k : ∀ σ H Q, t' σ H Q → t σ H Q) : PA X e t' := fun pos pins s σ H Q I w => h pos pins s σ H Q I (k σ H Q w)

/-! ### the pure functions -/
def dV (i : Nat) : DE := fun ρ => match ρ[i]? with
  | some (some (.fz d)) => M.ret d
  | _ => M.stuck
def dC (d : D) : DE := fun _ => M.ret d
def d1 (g : D → M D) (a : DE) : DE := fun ρ => a ρ >>= g
def d2 (g : D → D → M D) (a b : DE) : DE := fun ρ => a ρ >>= fun x => b ρ >>= fun y => g x y
def aN : DA := fun _ => M.ret []
def aC (a : DE) (r : DA) : DA := fun ρ => a ρ >>= fun x => r ρ >>= fun xs => M.ret (x :: xs)
def dA (g : List D → M D) (a : DA) : DE := fun ρ => a ρ >>= g
def blM : D → M Bool
  | .bl b => M.ret b
  | _ => M.stuck
def tB' (a : DE) : DT := fun ρ => a ρ >>= blM
def dOr (a b : DT) : DT := fun ρ => a ρ >>= fun x => if x then M.ret true else b ρ
def dNot (a : DT) : DT := fun ρ => a ρ >>= fun x => M.ret (!x)
def dIf (c : DT) (a b : DE) : DE := fun ρ => c ρ >>= fun x => if x then a ρ else b ρ
def dAndV (a b : DE) : DE := fun ρ => a ρ >>= fun x => blM x >>= fun c => if c then b ρ else M.ret (.bl false)
section
variable {X : Cx} {Xw : Nat → Hp → Prop} {a b : Expr} {δa δb : DE} {pos : Pos}
theorem pd_var {i : Nat} {x : Str} (h : PE X (.Name x pos) (tVar i)) : PD X Xw (.Name x pos) (dV i) := PE.weak h fun σ H Q ⟨F, ρ, s, w⟩ => by
  unfold dV at w
  split at w
  · rename_i d e
    obtain ⟨v, h1, h2⟩ := s.den i _ e
    exact ⟨v, h1, WP.now w s.fh h2⟩
  · exact w.elim
theorem pd_const {e : Expr} {d : D} {v : V} (h : PE X e (tC v)) (hd : ∀ F, Den X.K F d v) : PD X Xw e (dC d) := PE.weak h fun σ H Q ⟨F, ρ, s, w⟩ => WP.now w s.fh (hd F)
theorem pd_int {i j} : PD X Xw (.Constant (.int i) j pos) (dC (.int i)) := pd_const pe_int fun _ => rfl
theorem pd_bl {i j} : PD X Xw (.Constant (.bool i) j pos) (dC (.bl i)) := pd_const pe_bl fun _ => rfl
theorem pd_non {j} : PD X Xw (.Constant .none j pos) (dC .non) := pd_const pe_non fun _ => rfl
theorem pd_str {x j} (h : x.length ≤ lim := by decide) : PD X Xw (.Constant (.str x) j pos) (dC (.str x)) := pd_const pe_str fun _ => ⟨rfl, h⟩
/-- what the parts of a binary step ask -/
def OpD (K : PySem.W.Frag) (r : R2) (g : D → D → M D) : Prop := ∀ (Xw : Nat → Hp → Prop) (F H : Hp) (x y : V) (dx dy : D) (Q : VK), Same F H → Den K F dx x → Den K F dy y → WP K Xw F H (g dx dy) Q → r x y H Q
theorem tOp_of {r : R2} {g : D → D → M D} (hg : OpD X.K r g) : ∀ σ H Q, tD X.K Xw (d2 g δa δb) σ H Q → tOp r (tD X.K Xw δa) (tD X.K Xw δb) σ H Q := fun σ H Q ⟨F, ρ, s, w⟩ => by
  refine ⟨F, ρ, s, WP.mono (WP.bind w) fun v H1 ⟨F1, d, e1, q1, w1⟩ => ?_⟩
  refine ⟨F1, ρ, s.ext e1, WP.mono (WP.bind w1) fun u H2 ⟨F2, d', e2, q2, w2⟩ => ?_⟩
  exact hg Xw F2 H2 v u d d' Q e2.fh (Den.mono e2.ff q1) q2 w2
theorem pd_op {op : Operator} {r : R2} {g : D → D → M D} (ho : OpR X (binaryOp op) r) (hg : OpD X.K r g) (ha : PD X Xw a δa) (hb : PD X Xw b δb) : PD X Xw (.BinOp a op b pos) (d2 g δa δb) :=
  PE.weak (pe_op ho ha hb) (tOp_of hg)
theorem pd_cmp {op : CmpOp} {r : R2} {g : D → D → M D} (ho : OpR X (compareOp op) r) (hg : OpD X.K r g) (ha : PD X Xw a δa) (hb : PD X Xw b δb) (hm : behindInMarks op b = false := by first | exact nomark _ | rfl) : PD X Xw (.Compare a [op] [b] pos) (d2 g δa δb) :=
  PE.weak (pe_cmpR ho ha hb hm) (tOp_of hg)
theorem pt_cmp' {op : CmpOp} {r : R2} {g : D → D → M D} (ho : OpR X (compareOp op) r) (hg : OpD X.K r g) (ha : PD X Xw a δa) (hb : PD X Xw b δb) (hm : behindInMarks op b = false := by first | exact nomark _ | rfl) : PDT X Xw (.Compare a [op] [b] pos) (tB' (d2 g δa δb)) :=
  PT.weak (pt_cmpR ho ha hb hm) fun σ H Q ⟨F, ρ, s, w⟩ => by
    refine tOp_of hg σ H _ ⟨F, ρ, s, WP.mono (WPB.bind w) fun v H1 ⟨F1, d, e1, q1, w1⟩ => ?_⟩
    cases d with
    | bl k => exact ⟨k, q1, w1 _ _ (Ext.refl e1.fh)⟩
    | _ => exact w1.elim
theorem pd_ix {r : R2} {g : D → D → M D} (hr : IxR X r) (hg : OpD X.K r g) (ha : PD X Xw a δa) (hb : PD X Xw b δb) (hs : PlainIx b := by intro _ _; rfl) : PD X Xw (.Subscript a b pos) (d2 g δa δb) :=
  PE.weak (pe_ix hr ha hb hs) (tOp_of hg)
theorem pda_nil : PDA X Xw [] aN := PA.weak pa_nil fun σ H Q ⟨F, ρ, s, w⟩ => w [] H F (Ext.refl s.fh) rfl
theorem pda_cons {es : List Expr} {δs : DA} (ha : PD X Xw a δa) (hr : PDA X Xw es δs) (hs : starEach (a :: es) X.env = (false, eval a X.env) :: starEach es X.env := by rfl) : PDA X Xw (a :: es) (aC δa δs) :=
  PA.weak (pa_cons ha hr hs) fun σ H Q ⟨F, ρ, s, w⟩ => by
    refine ⟨F, ρ, s, WP.mono (WPL.bind w) fun v H1 ⟨F1, d, e1, q1, w1⟩ => ?_⟩
    refine ⟨F1, ρ, s.ext e1, WPL.mono (WPL.bindL w1) fun vs H2 ⟨F2, ds, e2, q2, w2⟩ => ?_⟩
    exact w2 _ _ _ (Ext.refl e2.fh) (.cons (Den.mono e2.ff q1) q2)
def mkTup (ds : List D) : M D := if ds.length ≤ lim then M.ret (.tup ds) else M.stuck
def mkLst (ds : List D) : M D := if ds.length ≤ lim then M.ret (.lst ds) else M.stuck
theorem mk_len {ds : List D} {f : List D → D} {Q : VK} {F H : Hp} (w : WP X.K Xw F H (if ds.length ≤ lim then M.ret (f ds) else M.stuck) Q) : ds.length ≤ lim ∧ WP X.K Xw F H (M.ret (f ds)) Q := by
  split at w
  · rename_i h; exact ⟨h, w⟩
  · exact w.elim
theorem pd_tup {x1} {es : List Expr} {δs : DA} (h : PDA X Xw es δs) : PD X Xw (.Tuple es x1 pos) (dA mkTup δs) := PE.weak (pe_tup h) fun σ H Q ⟨F, ρ, s, w⟩ => by
  refine ⟨F, ρ, s, WPL.mono (WP.bindL w) fun vs H1 ⟨F1, ds, e1, q1, w1⟩ => ?_⟩
  obtain ⟨hl, w1⟩ := mk_len (X := X) w1
  have hv := q1.len
  refine ⟨by have := lim_lt; omega, fun p hp => WP.fin w1 (Ext.lay e1.fh hp) ⟨p, vs, rfl, upd_same, DenL.mono (Ext.lay e1.fh hp).ff q1, hl⟩⟩
theorem pd_lst {es : List Expr} {δs : DA} (h : PDA X Xw es δs) : PD X Xw (.List es pos) (dA mkLst δs) := PE.weak (pe_lst h) fun σ H Q ⟨F, ρ, s, w⟩ => by
  refine ⟨F, ρ, s, WPL.mono (WP.bindL w) fun vs H1 ⟨F1, ds, e1, q1, w1⟩ => ?_⟩
  obtain ⟨hl, w1⟩ := mk_len (X := X) w1
  have hv := q1.len
  refine ⟨by have := lim_lt; omega, fun p hp => WP.fin w1 (Ext.lay e1.fh hp) ⟨p, vs, rfl, upd_same, DenL.mono (Ext.lay e1.fh hp).ff q1, hl⟩⟩
end
end L3


set_option Elab.async false
set_option linter.all false
set_option maxRecDepth 100000
/-! THE PURE LAYER, 2: what a loop walks; list comprehensions -/
namespace L3
open PySem PySem.Spec L2
open PyProof.Rows hiding St

/-- an iterator that yields these deep values -/
def ItD (K : PySem.W.Frag) (F : Hp) (J : It) (ds : List D) : Prop := ∀ (F' H' : Hp) (i : Nat), Same F F' → Same F' H' →
  (∀ d, ds[i]? = some d → J.go i H' ∧ ∀ x H'', J.yld i H' x H'' → ∃ F'', Ext F' H' F'' H'' ∧ Den K F'' d x) ∧ (ds.length ≤ i → J.stop i H')
theorem ItD.mono {K : PySem.W.Frag} {F F1 : Hp} {J : It} {ds : List D} (h : ItD K F J ds) (e : Same F F1) : ItD K F1 J ds := fun F' H' i s1 s2 => h F' H' i (e.trans s1) s2
def WPI (K : PySem.W.Frag) (Xw : Nat → Hp → Prop) (F H : Hp) (m : M (List D)) (R : It → Hp → Prop) : Prop :=
  match m with
  | none => False
  | some (.ok ds) => ∀ J H' F', Ext F H F' H' → ItD K F' J ds → R J H'
  | some (.ex n) => ∀ F' H', Ext F H F' H' → Xw n H'
def tDI (K : PySem.W.Frag) (Xw : Nat → Hp → Prop) (δ : DA) : TI := fun σ H R => ∃ F ρ, StE K F H σ ρ ∧ WPI K Xw F H (δ ρ) R
def PDI (X : Cx) (Xw : Nat → Hp → Prop) (tg iter : Expr) (δ : DA) : Prop := PI X tg iter (tDI X.K Xw δ)
theorem PI.weak {X : Cx} {tg e : Expr} {t t' : TI} (h : PI X tg e t) (k : ∀ σ H Q, t' σ H Q → t σ H Q) : PI X tg e t' := fun pins s σ H Q I w => h pins s σ H Q I (k σ H Q w)
theorem WPI.bind {K : PySem.W.Frag} {Xw : Nat → Hp → Prop} {F H : Hp} {m : M D} {k : D → M (List D)} {R : It → Hp → Prop} (h : WPI K Xw F H (m >>= k) R) :
    WP K Xw F H m fun v H1 => ∃ F1 d, Ext F H F1 H1 ∧ Den K F1 d v ∧ WPI K Xw F1 H1 (k d) R := by
  match m, h with
  | none, h => exact h
  | some (.ok d), h =>
    refine fun v H2 F2 e2 q => ⟨F2, d, e2, q, ?_⟩
    have h : WPI K Xw F H (k d) R := h
    show WPI K Xw F2 H2 (k d) R
    match k d, h with
    | none, h => exact h
    | some (.ok ds), h => exact fun J H3 F3 e3 q3 => h J H3 F3 (e2.trans e3) q3
    | some (.ex n), h => exact fun F3 H3 e3 => h F3 H3 (e2.trans e3)
  | some (.ex n), h => exact h
theorem WPI.bindL {K : PySem.W.Frag} {Xw : Nat → Hp → Prop} {F H : Hp} {m : M (List D)} {k : List D → M (List D)} {R : It → Hp → Prop} (h : WPI K Xw F H (m >>= k) R) :
    WPL K Xw F H m fun v H1 => ∃ F1 d, Ext F H F1 H1 ∧ DenL K F1 d v ∧ WPI K Xw F1 H1 (k d) R := by
  match m, h with
  | none, h => exact h
  | some (.ok d), h =>
    refine fun v H2 F2 e2 q => ⟨F2, d, e2, q, ?_⟩
    have h : WPI K Xw F H (k d) R := h
    show WPI K Xw F2 H2 (k d) R
    match k d, h with
    | none, h => exact h
    | some (.ok ds), h => exact fun J H3 F3 e3 q3 => h J H3 F3 (e2.trans e3) q3
    | some (.ex n), h => exact fun F3 H3 e3 => h F3 H3 (e2.trans e3)
  | some (.ex n), h => exact h
def lstM : D → M (List D)
  | .lst ds => M.ret ds
  | _ => M.stuck
def tupM : D → M (List D)
  | .tup ds => M.ret ds
  | _ => M.stuck
def dItL (a : DE) : DA := fun ρ => a ρ >>= lstM
def dItT (a : DE) : DA := fun ρ => a ρ >>= tupM
theorem itd_list {K : PySem.W.Frag} {F : Hp} {a : Addr} {vs : List V} {ds : List D} (h : SqL K F a vs) (hd : DenL K F ds vs) : ItD K F (Itl K a) ds := fun F' H' i s1 s2 => by
  have hs := Same.seq s2 (Same.seq s1 h)
  refine ⟨fun d e => ?_, fun hl => ⟨vs, hs, by rw [← hd.len]; exact hl⟩⟩
  obtain ⟨v, e1, q⟩ := hd.get e
  refine ⟨⟨vs, v, hs, e1⟩, fun x H'' y => ?_⟩
  obtain ⟨e2, y⟩ := y
  subst e2
  have := y vs hs
  rw [e1] at this
  cases this
  exact ⟨F', Ext.refl s2, Den.mono s1 q⟩
theorem itd_tup {K : PySem.W.Frag} {F : Hp} {a : Addr} {vs : List V} {ds : List D} (h : SqT K F a vs) (hd : DenL K F ds vs) : ItD K F (Itt K a) ds := fun F' H' i s1 s2 => by
  have hs := Same.tup s2 (Same.tup s1 h)
  refine ⟨fun d e => ?_, fun hl => ⟨vs, hs, by rw [← hd.len]; exact hl⟩⟩
  obtain ⟨v, e1, q⟩ := hd.get e
  refine ⟨⟨vs, v, hs, e1⟩, fun x H'' y => ?_⟩
  obtain ⟨e2, y⟩ := y
  subst e2
  have := y vs hs
  rw [e1] at this
  cases this
  exact ⟨F', Ext.refl s2, Den.mono s1 q⟩
def rngL (lo : Int) (n : Nat) : List D := (List.range n).map fun (i : Nat) => D.int (lo + (i : Int))
theorem itd_range {K : PySem.W.Frag} {F : Hp} (lo : Int) (n : Nat) : ItD K F (Itr lo n) (rngL lo n) := fun F' H' i s1 s2 => by
  refine ⟨fun d e => ?_, fun hl => show n ≤ i by simpa [rngL] using hl⟩
  unfold rngL at e
  rw [List.getElem?_map] at e
  have hi : i < n := by
    by_cases hi : i < n
    · exact hi
    · rw [List.getElem?_eq_none (by simpa using hi)] at e; cases e
  rw [List.getElem?_range hi] at e
  cases e
  refine ⟨hi, fun x H'' y => ?_⟩
  obtain ⟨e2, y⟩ := y
  subst e2 y
  exact ⟨F', Ext.refl s2, rfl⟩
section
variable {X : Cx} {Xw : Nat → Hp → Prop} {tg l : Expr} {δ : DE} {pos : Pos}
theorem pdi_list (h : PD X Xw l δ) : PDI X Xw tg l (dItL δ) := PI.weak (pi_list h) fun σ H R ⟨F, ρ, s, w⟩ => by
  refine ⟨F, ρ, s, WP.mono (WPI.bind w) fun v H1 ⟨F1, d, e1, q1, w1⟩ => ?_⟩
  cases d with
  | lst ds =>
    obtain ⟨a, vs, h1, h2, h3, h4⟩ := q1
    exact ⟨a, h1, ⟨vs, Same.seq e1.fh (SqL.of h2)⟩, w1 _ _ _ (Ext.refl e1.fh) (itd_list (SqL.of h2) h3)⟩
  | _ => exact w1.elim
theorem pdi_tup (h : PD X Xw l δ) : PDI X Xw tg l (dItT δ) := PI.weak (pi_tup h) fun σ H R ⟨F, ρ, s, w⟩ => by
  refine ⟨F, ρ, s, WP.mono (WPI.bind w) fun v H1 ⟨F1, d, e1, q1, w1⟩ => ?_⟩
  cases d with
  | tup ds =>
    obtain ⟨a, vs, h1, h2, h3, h4⟩ := q1
    exact ⟨a, h1, ⟨vs, Same.tup e1.fh (SqT.of h2)⟩, w1 _ _ _ (Ext.refl e1.fh) (itd_tup (SqT.of h2) h3)⟩
  | _ => exact w1.elim
def rngM1 : List D → M (List D)
  | [.int j] => if -4096 ≤ j ∧ j ≤ 4096 then M.ret (rngL 0 j.toNat) else M.stuck
  | _ => M.stuck
theorem DenL.one {K : PySem.W.Frag} {F : Hp} {d : D} {vs : List V} (h : DenL K F [d] vs) : ∃ v, vs = [v] ∧ Den K F d v := by
  obtain ⟨v, r, h1, h2, h3⟩ := h
  cases (show r = [] from h3)
  exact ⟨v, h1, h2⟩
theorem DenL.two {K : PySem.W.Frag} {F : Hp} {d d' : D} {vs : List V} (h : DenL K F [d, d'] vs) : ∃ v v', vs = [v, v'] ∧ Den K F d v ∧ Den K F d' v' := by
  obtain ⟨v, r, h1, h2, h3⟩ := h
  obtain ⟨v', h4, h5⟩ := h3.one
  subst h4
  exact ⟨v, v', h1, h2, h5⟩
theorem pdi_range1 {a : Expr} {δs : DA} {p : Pos} (hg : Gl X "range") (hm : X.mg "range" = none) (ha : PDA X Xw [a] δs) (hs : starEach [a] X.env = [(false, eval a X.env)] := by rfl) : PDI X Xw tg (.Call (.Name "range" p) [a] [] pos) (fun ρ => δs ρ >>= rngM1) :=
  PI.weak (pi_range1 hg hm ha hs) fun σ H R ⟨F, ρ, s, w⟩ => by
    refine ⟨F, ρ, s, WPL.mono (WPI.bindL w) fun vs H1 ⟨F1, ds, e1, q1, w1⟩ => ?_⟩
    unfold rngM1 at w1
    split at w1
    · rename_i j
      obtain ⟨v, h1, h2⟩ := q1.one
      cases (show v = _ from h2)
      split at w1
      · exact ⟨j, h1, by omega, by omega, w1 _ _ _ (Ext.refl e1.fh) (itd_range 0 _)⟩
      · exact w1.elim
    · exact w1.elim
end

/-! ### list comprehensions -/
def hideN (tg N : List Str) : List Str := N.map fun y => if tg.contains y then y ++ (" " : Str) else y
/-- the block of a comprehension -/
def compX (X : Cx) (scope : Scope) (tn : List Str) (pins : List (Addr × Obj)) (cl : List (Str × Addr)) (C : Addr) (fp : List Addr) (s₂ : Shared) (H : Hp) : Cx :=
  { X with N := tn ++ hideN tn X.N, s₀ := s₂, H₀ := H, env := compEnvC scope cl C X.env, outer := X.stack, ex := fp, fn := fun _ => false, pn := X.pn ++ pins, xe := fun _ _ => False }
/-- what the text says of a comprehension's scope -/
structure CompSc (X : Cx) (scope : Scope) (tn : List Str) : Prop where
  kind : scope.kind = .function
  nocell : ∀ y ∈ scope.names, y.2 ≠ .cell
  names : ∀ y ∈ scope.names, y.2 = .local → scope.names.lookup y.1 = some .local
  frees : ∀ y ∈ scope.names, y.2 = .free → X.env.kindOf y.1 = some .cell ∨ X.env.kindOf y.1 = some .free
  vis : ∀ p ∈ (hideN tn X.N).zip X.N, scope.names.lookup p.1 = none ∨ (p.1 = p.2 ∧ scope.names.lookup p.1 = some .free)

theorem closure_go {env : Env} : ∀ (names : List (Str × NameKind)) (acc : List (Str × Addr)), (∀ y ∈ names, y.2 = .free → ∃ c, env.cells.lookup y.1 = some c) →
    (∀ x c, acc.lookup x = some c → env.cells.lookup x = some c) →
    ∃ cl, (forIn names acc (fun (x : Str × NameKind) (r : List (Str × Addr)) => do
        let __x := x
        if (__x.2 == NameKind.free) = true then do let c ← cellOf env __x.1; pure (ForInStep.yield ((__x.1, c) :: r)) else pure (ForInStep.yield r)) : Sem (List (Str × Addr))) = pure cl ∧
      (∀ x c, cl.lookup x = some c → env.cells.lookup x = some c) ∧ (∀ x c, acc.lookup x = some c → ∃ c', cl.lookup x = some c') ∧ (∀ x, names.lookup x = some .free → ∃ c, cl.lookup x = some c)
  | [], acc, _, h2 => ⟨acc, rfl, h2, fun x c e => ⟨c, e⟩, fun x e => by simp at e⟩
  | (n, k) :: r, acc, h1, h2 => by
    by_cases hk : k = .free
    · subst hk
      obtain ⟨c, hc⟩ := h1 (n, .free) List.mem_cons_self rfl
      obtain ⟨cl, e, a1, a2, a3⟩ := closure_go r ((n, c) :: acc) (fun y hy => h1 y (List.mem_cons_of_mem _ hy)) (fun x c' q => by
        rw [List.lookup_cons] at q
        split at q
        · rename_i hx
          cases q
          rw [show x = n from by simpa using hx]; exact hc
        · exact h2 x c' q)
      refine ⟨cl, ?_, a1, fun x c' q => ?_, fun x q => ?_⟩
      · rw [List.forIn_cons]
        have : cellOf env n = pure c := by unfold cellOf; rw [hc]
        simp only [beq_self_eq_true, if_true, this, pure_bind]
        exact e
      · by_cases hx : x = n
        · subst hx
          exact a2 x c (by simp [List.lookup_cons])
        · exact a2 x c' (by rw [List.lookup_cons, show (x == n) = false from by simpa using hx]; exact q)
      · rw [List.lookup_cons] at q
        split at q
        · rename_i hx
          exact a2 x c (by rw [List.lookup_cons, hx])
        · exact a3 x q
    · obtain ⟨cl, e, a1, a2, a3⟩ := closure_go r acc (fun y hy => h1 y (List.mem_cons_of_mem _ hy)) h2
      refine ⟨cl, ?_, a1, a2, fun x q => ?_⟩
      · rw [List.forIn_cons]
        have : ((k == NameKind.free) = true) = False := by simpa using hk
        simp only [this, if_false, pure_bind]
        exact e
      · rw [List.lookup_cons] at q
        split at q
        · cases q; exact absurd rfl hk
        · exact a3 x q
theorem closure_of {scope : Scope} {env : Env} (h : ∀ y ∈ scope.names, y.2 = .free → ∃ c, env.cells.lookup y.1 = some c) :
    ∃ cl, closureFor scope env = pure cl ∧ (∀ x c, cl.lookup x = some c → env.cells.lookup x = some c) ∧ (∀ x, scope.names.lookup x = some .free → ∃ c, cl.lookup x = some c) := by
  obtain ⟨cl, e, a1, _, a3⟩ := closure_go (env := env) scope.names [] h (fun x c q => by simp at q)
  refine ⟨cl, ?_, a1, a3⟩
  unfold closureFor
  show (forIn scope.names [] _ >>= fun r => pure r) = _
  rw [bind_pure]
  exact e
end L3


set_option Elab.async false
set_option linter.all false
set_option maxRecDepth 100000
/-! THE PURE LAYER, 3: the rule of a list comprehension of one clause -/
namespace L3
open PySem PySem.Spec L2
open PyProof.Rows hiding St

/-- no exception may leave -/
def noex {α : Type} : M α → M α
  | some (.ok a) => some (.ok a)
  | _ => none
/-- the items of a comprehension: the test and the element at each -/
def compL (f : D → M (Option D)) : List D → M (List D)
  | [] => M.ret []
  | d :: ds => f d >>= fun o => compL f ds >>= fun r => M.ret (match o with | some y => y :: r | none => r)
/-- what is stored in the targets -/
def tgM (n : Nat) : D → M (List D) := fun d => match n, d with
  | 0, d => M.ret [d]
  | n, .tup ds => if ds.length = n then M.ret ds else M.stuck
  | _, _ => M.stuck
/-- one turn: targets, test, element -/
def compF (n : Nat) (δt : DT) (δe : DE) (ρ : Rho) : D → M (Option D) := fun d =>
  tgM n d >>= fun ts => δt (ts.map (fun t => some (Sl.fz t)) ++ ρ) >>= fun b => if b then δe (ts.map (fun t => some (Sl.fz t)) ++ ρ) >>= fun y => M.ret (some y) else M.ret none
def dComp (n : Nat) (δi : DA) (δt : DT) (δe : DE) : DE := fun ρ => δi ρ >>= fun ds => noex (compL (compF n δt δe ρ) ds) >>= mkLst
def dTrue : DT := fun _ => M.ret true

theorem compL_cons (f : D → M (Option D)) (d : D) (ds : List D) : compL f (d :: ds) = (f d >>= fun o => compL f ds >>= fun r => M.ret (match o with | some y => y :: r | none => r)) := rfl
theorem compL_snoc {f : D → M (Option D)} {ds : List D} {i : Nat} {d : D} {ys R : List D} (hd : ds[i]? = some d)
    (h : compL f ds = (compL f (ds.drop i) >>= fun r => M.ret (ys ++ r))) (hR : compL f ds = M.ret R) :
    ∃ o, f d = M.ret o ∧ compL f ds = (compL f (ds.drop (i + 1)) >>= fun r => M.ret ((match o with | some y => ys ++ [y] | none => ys) ++ r)) := by
  have e : ds.drop i = d :: ds.drop (i + 1) := by
    obtain ⟨hi, e⟩ := List.getElem?_eq_some_iff.mp hd
    rw [List.drop_eq_getElem_cons hi, e]
  rw [e, compL_cons] at h
  have h' := h.symm.trans hR
  obtain ⟨r, h1, h2⟩ := bind_ok h'
  obtain ⟨o, h3, h4⟩ := bind_ok h1
  refine ⟨o, h3, ?_⟩
  obtain ⟨r', h5, h6⟩ := bind_ok h4
  rw [h5, hR]
  rw [← h2, ← ret_inj h6]
  show M.ret _ = M.ret _
  cases o with
  | none => rfl
  | some y => simp
theorem sameBut_hok {P : Program} {w : World} {H : Hp} {h1 h2 : Heap} {a : Addr} (x : HOk P w H h1) (s : Heap.SameBut a h1 h2) (n : H a = none) : HOk P w H h2 := fun b o e => by
  refine (x b o e).stay (fun c v hc q => (s.2 c ?_).trans q) (fun _ q => q) fun _ _ q => q
  rintro rfl
  rcases hc with rfl | hc
  · rw [n] at e; cases e
  · rw [n] at hc; cases hc

/-- the loop of a comprehension, whatever the target is -/
theorem comp_loop {prog : Program} {w : World} {A : Around} {R : Result → Shared → Prop} {s : Shared} {elt target iter : Expr} {ifs : List Expr} {scope : Scope} {pos : Pos} {it acc : Value} {env : Env} (I : Nat → Shared → Prop)
    (turn : ∀ n s, I n s → wpAny (model prog w) A (pyNext it) (fun r s₁ => match r with
      | none => R (.ok .next) s₁
      | some v => wpAny (model prog w) A (letOwnedTupleGo target it v) (fun _ s₁' => wpAny (model prog w) A (assign target env v) (fun _ s₂ =>
          wpAny (model prog w) A (forIn ifs true fun c r => if r = true then do let ok ← isTrue c env (eval c env); pure (ForInStep.yield ok) else pure (ForInStep.yield r)) (fun ok s₃ =>
            if ok = true then wpAny (model prog w) A (eval elt env) (fun x s₄ =>
              wpAny (model prog w) A (call (.builtin "list.append") [acc, x]) (fun _ s₅ => ∃ m, m < n ∧ I m s₅) (notedBy (model prog w) A env fun e s' => R (.error e) s') s₄) (notedBy (model prog w) A env fun e s' => R (.error e) s') s₃
            else ∃ m, m < n ∧ I m s₃) (notedBy (model prog w) A env fun e s' => R (.error e) s') s₂) (notedBy (model prog w) A env fun e s' => R (.error e) s') s₁') (notedBy (model prog w) A env fun e s' => R (.error e) s') s₁) (notedBy (model prog w) A env fun e s' => R (.error e) s') s)
    (n : Nat) (h : I n s) :
    codeAny (model prog w) A (.compLoop (.ListComp elt [⟨target, iter, ifs, 0⟩] scope pos) 0 it acc env) R s := by
  refine codeAny_loop rfl I (fun n s hI => ?_) n h
  show wpAny _ A ((compTurn (.ListComp elt [⟨target, iter, ifs, 0⟩] scope pos) 0 it acc env).onRaise (fun x => do noteFrame x env; theTreesLotGoes x)) _ _ s
  refine wpAny_noted ?_
  rw [compTurn_list]
  refine wpAny_bind (wpAny_standAt (wpAny_bind (wpAny_mono (turn n s hI) (fun r s₁ h₁ => ?_) fun _ _ h' => h')))
  cases r with
  | none => exact wpAny_pure h₁
  | some v =>
    refine wpAny_bind (wpAny_mono h₁ (fun _ s₁' h₁ => ?_) fun _ _ h' => h')
    refine wpAny_bind (wpAny_mono h₁ (fun _ s₂ h₂ => wpAny_bind (wpAny_mono h₂ (fun ok s₃ h₃ => ?_) fun _ _ h' => h')) fun _ _ h' => h')
    cases ok with
    | false => exact wpAny_pure ⟨rfl, h₃⟩
    | true =>
      exact wpAny_bind (wpAny_bind (wpAny_mono h₃ (fun x s₄ h₄ => wpAny_bind (wpAny_mono h₄ (fun _ s₅ h₅ => wpAny_pure (wpAny_pure ⟨rfl, h₅⟩)) fun _ _ h' => h')) fun _ _ h' => h'))

/-- the targets of a clause are stored -/
def TgOk (X : Cx) (tg : Expr) (n : Nat) (σ : St) : Prop := ∀ (pins : List (Addr × Obj)) (s : Shared) (σ' : St) (F H : Hp) (d : D) (ts : List D) (v : V) (u : Value), Inv X pins σ' H s → Same F H → σ'.drop (max n 1) = σ → RelV v u → Den X.K F d v → tgM n d = M.ret ts →
  wpAny (model X.prog X.w) X.A (assign tg X.env u) (fun _ s' => ∃ vs, Inv X pins (vs.map some ++ σ) H s' ∧ DenL X.K F ts vs) X.xe s
/-- the tests of a clause -/
def TestOk (X : Cx) (ifs : List Expr) (δt : DT) : Prop := ∀ (pins : List (Addr × Obj)) (s : Shared) (σ : St) (H : Hp) (Q : Bool → Hp → Prop), Inv X pins σ H s → tDT X.K (fun _ _ => False) δt σ H Q →
  wpAny (model X.prog X.w) X.A (forIn ifs true fun c r => if r = true then do let ok ← isTrue c X.env (eval c X.env); pure (ForInStep.yield ok) else pure (ForInStep.yield r)) (TP X pins σ Q) X.xe s
theorem test_nil {X : Cx} : TestOk X [] dTrue := fun pins s σ H Q I ⟨F, ρ, S, w⟩ => wpAny_tests_nil ⟨H, I, w H F (Ext.refl S.fh)⟩
theorem test_one {X : Cx} {c : Expr} {δ : DT} (h : PDT X (fun _ _ => False) c δ) : TestOk X [c] δ := fun pins s σ H Q I w => wpAny_tests_one (h pins s σ H Q I w)

theorem StE.cons {K : PySem.W.Frag} {F H : Hp} {σ : St} {ρ : Rho} {ts : List D} {vs : List V} (s : StE K F H σ ρ) (h : DenL K F ts vs) : StE K F H (vs.map some ++ σ) (ts.map (fun t => some (Sl.fz t)) ++ ρ) := by
  refine ⟨s.fh, fun i sl e => ?_⟩
  have hl := h.len
  by_cases hi : i < ts.length
  · rw [List.getElem?_append_left (by simpa using hi), List.getElem?_map] at e
    cases q : ts[i]? with
    | none => rw [q] at e; cases e
    | some t =>
      rw [q] at e
      cases e
      obtain ⟨v, e1, e2⟩ := h.get q
      exact ⟨v, by rw [List.getElem?_append_left (by simp; omega), List.getElem?_map, e1]; rfl, e2⟩
  · rw [List.getElem?_append_right (by simpa using hi)] at e
    obtain ⟨v, e1, e2⟩ := s.den _ _ e
    refine ⟨v, ?_, e2⟩
    rw [List.getElem?_append_right (by simp; omega)]
    simpa [hl] using e1
theorem WPB.take {Xw : Nat → Hp → Prop} {F H : Hp} {b : Bool} : WPB Xw F H (M.ret b) fun b' H' => b' = b ∧ ∃ F', Ext F H F' H' := fun H' F' e => ⟨rfl, F', e⟩
theorem WP.take {K : PySem.W.Frag} {Xw : Nat → Hp → Prop} {F H : Hp} {d : D} : WP K Xw F H (M.ret d) fun v H' => ∃ F', Ext F H F' H' ∧ Den K F' d v := fun v H' F' e q => ⟨F', e, q⟩
def relK (env : Env) (p : Str × NameKind) : Str × NameKind := if (p.2 == .free && env.scope.kind == .function && env.kindOf p.1 == some .cell) then (p.1, .cell) else (p.1, p.2)
theorem relabel_names (scope : Scope) (env : Env) : (relabel scope env).names = scope.names.map (relK env) := rfl
theorem relK_fst (env : Env) (p : Str × NameKind) : (relK env p).1 = p.1 := by unfold relK; split <;> rfl
theorem lookup_rel (env : Env) (x : Str) : ∀ ns : List (Str × NameKind), (ns.map (relK env)).lookup x = (ns.lookup x).map fun k => (relK env (x, k)).2
  | [] => rfl
  | (m, k) :: r => by
    rw [List.map_cons, List.lookup_cons, List.lookup_cons]
    have e : relK env (m, k) = (m, (relK env (m, k)).2) := Prod.ext (relK_fst env (m, k)) rfl
    rw [e]
    dsimp only
    by_cases hx : (x == m) = true
    · have hm : x = m := by simpa using hx
      subst hm
      rw [hx]
      rfl
    · have hx : (x == m) = false := by simpa using hx
      rw [hx]
      exact lookup_rel env x r
theorem relabel_none {scope : Scope} {env : Env} {x : Str} (h : scope.names.lookup x = none) : (relabel scope env).names.lookup x = none := by
  rw [relabel_names, lookup_rel, h]; rfl
theorem relabel_free {scope : Scope} {env : Env} {x : Str} (hc : ∀ y ∈ scope.names, y.2 ≠ .cell) (h : (relabel scope env).names.lookup x = some .cell ∨ (relabel scope env).names.lookup x = some .free) : scope.names.lookup x = some .free := by
  rw [relabel_names, lookup_rel] at h
  cases q : scope.names.lookup x with
  | none => rw [q] at h; rcases h with h | h <;> cases h
  | some k =>
    rw [q] at h
    have hk : k ≠ .cell := hc _ (PySem.mem_of_lookup q)
    have h : (relK env (x, k)).2 = .cell ∨ (relK env (x, k)).2 = .free := by simpa using h
    by_cases hf : k = .free
    · rw [hf]
    · have : (relK env (x, k)).2 = k := by
        unfold relK
        rw [if_neg]
        simp [hf]
      rw [this] at h
      rcases h with h | h
      · exact absurd h hk
      · exact absurd h hf
theorem relabel_notlocal {scope : Scope} {env : Env} {x : Str} (h : scope.names.lookup x = some .free) : ¬ (relabel scope env).names.lookup x = some .local := by
  rw [relabel_names, lookup_rel, h]
  intro z
  have z : (relK env (x, .free)).2 = .local := by simpa using z
  unfold relK at z
  split at z <;> cases z
/-- what holds of the block's own frame at the end -/
structure BlockEnd (X : Cx) (pins : List (Addr × Obj)) (C : Addr) (H' : Hp) (s1 : Shared) : Prop where
  ns : ∃ m, s1.heap.Ns C m
  free : H' C = none
  nl : C ≠ X.env.locals
  nw : X.s₀.heap.objs.size ≤ C
  nc : ∀ x c, X.env.cells.lookup x = some c → c ≠ C
  np : ∀ p ∈ X.pn ++ pins, p.1 ≠ C
theorem comp_run {X : Cx} {Xw : Nat → Hp → Prop} {elt iter tg : Expr} {ifs : List Expr} {scope : Scope} {pos : Pos} {tn : List Str} {n : Nat} {δi : DA} {δt : DT} {δe : DE} {cl : List (Str × Addr)} {pins : List (Addr × Obj)} {s : Shared} {σ : St} {H F : Hp} {ρ : Rho} {Q : VK} {RR : Value → Addr → Result → Shared → Prop}
    (sc : CompSc X scope tn) (hn : tn.length = max n 1) (hc : X.calm = true) (hi : PDI X Xw tg iter δi)
    (hg : ∀ pins cl C fp s₂ H σ, TgOk (compX X scope tn pins cl C fp s₂ H) tg n σ)
    (ht : ∀ pins cl C fp s₂ H, TestOk (compX X scope tn pins cl C fp s₂ H) ifs δt)
    (he : ∀ pins cl C fp s₂ H, PD (compX X scope tn pins cl C fp s₂ H) (fun _ _ => False) elt δe)
    (I : Inv X pins σ H s) (S : StE X.K F H σ ρ) (w : WP X.K Xw F H (dComp n δi δt δe ρ) Q)
    (cl1 : ∀ x c, cl.lookup x = some c → X.env.cells.lookup x = some c) (cl2 : ∀ x, scope.names.lookup x = some .free → ∃ c, cl.lookup x = some c)
    (hRR : ∀ (s1 : Shared) (C D : Addr) (H' : Hp), Inv X pins σ H' s1 → Q (.ref D) H' → BlockEnd X pins C H' s1 → RR (.ref D) C (.ok .next) s1) :
    wpAny (model X.prog X.w) X.A (eval iter X.env) (fun x s₁ => wpAny (model X.prog X.w) X.A (pyIter x) (fun it s₂ => wpAny (model X.prog X.w) X.A (newList []) (fun acc s₃ =>
      wpAny (model X.prog X.w) X.A (newFunctionEnv scope X.env.globals cl [] X.env.qual none .none (some X.env)) (fun cenv s₄ =>
        codeAny (model X.prog X.w) X.A (.compStart (.ListComp elt [⟨tg, iter, ifs, 0⟩] scope pos) 0 it acc { cenv with scope := relabel scope X.env }) (RR acc cenv.locals) s₄) X.xe s₃) X.xe s₂) X.xe s₁) X.xe s := by
  refine thn (hi pins s σ H (fun J H2 => ∃ F2 ds, Ext F H F2 H2 ∧ ItD X.K F2 J ds ∧ WP X.K Xw F2 H2 (noex (compL (compF n δt δe ρ) ds) >>= mkLst) Q) I ⟨F, ρ, S, ?_⟩) fun xv s₁ h₁ => thn h₁ fun it s₂ h₂ => ?_
  · unfold dComp at w
    rcases (δi ρ).cs with hq | ⟨m, hq⟩ | ⟨ds, hq⟩
    · rw [hq] at w; exact w.elim
    · rw [hq] at w ⊢; exact w
    · rw [hq] at w ⊢; exact fun J H' F' e q => ⟨F', ds, e, q, WP.ext e w⟩
  obtain ⟨ia, fp, tnn, J, H2, rfl, I2, T, st2, f2, F2, ds, e2, it2, w2⟩ := h₂
  obtain ⟨R, hR, hRl, w2⟩ : ∃ R, compL (compF n δt δe ρ) ds = M.ret R ∧ R.length ≤ lim ∧ WP X.K Xw F2 H2 (M.ret (.lst R)) Q := by
    rcases (compL (compF n δt δe ρ) ds).cs with hq | ⟨m, hq⟩ | ⟨R, hq⟩
    · rw [hq] at w2; exact w2.elim
    · rw [hq] at w2; exact w2.elim
    · rw [hq] at w2
      obtain ⟨h1, h2⟩ := mk_len (X := X) (f := D.lst) (show WP X.K Xw F2 H2 (mkLst R) Q from w2)
      exact ⟨R, hq, h1, h2⟩
  refine wpAny_newObj_type (wpAny_newFunctionEnv sc.nocell (by intro y hy; simp at hy) (fun h₁ hns₁ hsb₁ => ?_) sc.kind)
  dsimp only at hns₁ hsb₁ ⊢
  generalize hHL : s₂.heap.push { cls := .type "list", dict := none, data := .seq ([] : List Value).toArray } = HL at hns₁ hsb₁ ⊢
  have hC : HL.objs.size = s₂.heap.objs.size + 1 := by rw [← hHL, Heap.size_push]
  have hDC : s₂.heap.objs.size < HL.objs.size := by rw [hC]; exact Nat.lt_succ_self _
  have old : ∀ b o, s₂.heap.get? b = some o → h₁.get? b = some o := fun b o e => hsb₁.extBut b o (Nat.ne_of_lt (Nat.lt_trans (Heap.lt_size e) hDC)) (Heap.get?_push_of_some _ (hHL ▸ Heap.get?_push_of_some _ e))
  have hacc : h₁.get? s₂.heap.objs.size = some { cls := .type "list", data := .seq ([] : List Value).toArray } := hsb₁.extBut _ _ (Nat.ne_of_lt hDC) (Heap.get?_push_of_some _ (hHL ▸ Heap.get?_push_size _ rfl))
  have nD : H2 s₂.heap.objs.size = none := I2.hok.fresh (Nat.le_refl _)
  have nC : H2 HL.objs.size = none := I2.hok.fresh (Nat.le_of_lt hDC)
  have gC : s₂.heap.get? HL.objs.size = none := Heap.get?_none_of_le (Nat.le_of_lt hDC)
  have fl : ∀ b ∈ fp, b < s₂.heap.objs.size := fun b hb => by
    obtain ⟨o, e, _⟩ := T.obj 0 _ st2 b hb
    exact Heap.lt_size e
  generalize hX' : compX X scope tn pins cl HL.objs.size fp s₂ H2 = X'
  -- the block's context
  have ok' : X'.Ok := by
    subst hX'
    refine ⟨I2.ok.mod, sc.kind, I2.ok.glob, I2.ok.blt, Nat.le_of_lt hDC, fun x y c h1 h2 => I2.ok.inj x y c (cl1 _ _ h1) (cl1 _ _ h2), fun x hx => ?_, fun _ _ h => (by cases h), I2.ok.hd, I2.ok.frames, .inl rfl,
      fun b hb => ⟨Nat.ne_of_lt (Nat.lt_trans (fl b hb) hDC), fun x c h => (f2 b hb).2.2.2.2.1 x c (cl1 _ _ h)⟩, I2.bs, Nat.le_trans I2.ok.bsz I2.sz, fun b o e hb => ?_, fun b hb z => ?_, I2.stack, I2.stkFree⟩
    · have hx : (relabel scope X.env).names.lookup x = some .cell ∨ (relabel scope X.env).names.lookup x = some .free := hx
      exact cl2 x (relabel_free sc.nocell hx)
    · rcases (f2 b hb).2.2.2.1 with z | z
      · exact I2.ok.noex b o e z
      · exact absurd (Nat.lt_of_lt_of_le (Heap.lt_size (I2.ok.bs b o e).1) z) (Nat.lt_irrefl _)
    · rcases List.mem_cons.mp (I2.stkSub b z) with q | q
      · exact (f2 b hb).2.1 q
      · exact (f2 b hb).2.2.1 q
  have nD' : ∀ b o, H2 b = some o → b ≠ s₂.heap.objs.size := fun b o e => ne_of_none e nD
  have fpok : ∀ {H' : Hp}, (∀ b ∈ fp, H' b = none) → ∀ b ∈ fp, FpOk X' [] H' b := fun hnn b hb => by
    subst hX'
    refine ⟨hnn b hb, Nat.ne_of_lt (Nat.lt_trans (fl b hb) hDC), fun z => ok'.exfs b hb z, .inl hb, fun x c h => (f2 b hb).2.2.2.2.1 x c (cl1 _ _ h), fun p hp => ?_⟩
    rw [List.append_nil] at hp
    exact (f2 b hb).2.2.2.2.2 p hp
  have I0 : Inv X' [] (List.replicate (max n 1) none ++ σ) (upd H2 s₂.heap.objs.size (.lst [])) { s₂ with heap := h₁, toks := s₂.toks + ([] : List (Str × Value)).length } := by
    subst hX'
    have hokL : HOk X.prog X.w (upd H2 s₂.heap.objs.size (.lst [])) h₁ := I2.hok.laid old (Nat.le_refl _) ⟨Nat.zero_le _, [], _, .nil, hacc⟩
    refine ⟨ok', rfl, I2.bare, Un.laid old (Nat.le_refl _) nD, ⟨_, hns₁, fun i x v h1 h2 h3 => ?_⟩, fun x c h => ?_, ?_, fun x c h => ?_, fun p hp => ?_, hokL, ?_⟩
    · by_cases hi : i < max n 1
      · rw [List.getElem?_append_left (by simpa using hi), List.getElem?_replicate, if_pos hi] at h2
        cases h2
      · have hi' : tn.length ≤ i := by omega
        have h1 : (tn ++ hideN tn X.N)[i]? = some x := h1
        rw [List.getElem?_append_right hi'] at h1
        rw [List.getElem?_append_right (by simpa using hi), List.length_replicate, ← hn] at h2
        have hN : ∃ y, X.N[i - tn.length]? = some y ∧ (x, y) ∈ (hideN tn X.N).zip X.N := by
          have hlt := (List.getElem?_eq_some_iff.mp h1).1
          have hlt' : i - tn.length < X.N.length := by simpa [hideN] using hlt
          refine ⟨X.N[i - tn.length], List.getElem?_eq_getElem hlt', ?_⟩
          refine List.mem_iff_getElem?.mpr ⟨i - tn.length, ?_⟩
          rw [List.getElem?_zip_eq_some]
          exact ⟨h1, List.getElem?_eq_getElem hlt'⟩
        obtain ⟨y, hy, hm⟩ := hN
        have hV : (relabel scope X.env).names.lookup x = some .local ∨ (relabel scope X.env).names.lookup x = some .cell ∨ (relabel scope X.env).names.lookup x = some .free := h3
        rcases sc.vis _ hm with hno | ⟨hxy, hfr⟩
        · have hno : scope.names.lookup x = none := hno
          have : (relabel scope X.env).names.lookup x = none := relabel_none hno
          rw [this] at hV
          rcases hV with z | z | z <;> cases z
        · have hxy : x = y := hxy
          subst hxy
          have hfr : scope.names.lookup x = some .free := hfr
          have hk := sc.frees (x, .free) (PySem.mem_of_lookup hfr) rfl
          obtain ⟨m, hm2, hl2⟩ := I2.loc
          obtain ⟨u, ru, lk⟩ := hl2 _ x v hy h2 (by rcases hk with z | z; exact .inr (.inl z); exact .inr (.inr z))
          refine ⟨u, ru, .inr ⟨?_, ?_⟩⟩
          · rcases hV with z | z | z
            · exact absurd z (relabel_notlocal hfr)
            · exact .inl z
            · exact .inr z
          · rcases lk with ⟨z, _⟩ | ⟨_, c, hc1, hc2⟩
            · rcases hk with q | q
              · rw [show X.env.kindOf x = some .local from z] at q; cases q
              · rw [show X.env.kindOf x = some .local from z] at q; cases q
            · obtain ⟨c', hc'⟩ := cl2 x hfr
              have := cl1 _ _ hc'
              rw [hc1] at this
              cases this
              obtain ⟨o, ho, hd⟩ := hc2
              exact ⟨c, hc', o, old _ _ ho, hd⟩
    · obtain ⟨v, o, ho, hd⟩ := I2.cell x c (cl1 _ _ h)
      exact ⟨v, o, old _ _ ho, hd⟩
    · show upd H2 s₂.heap.objs.size (.lst []) HL.objs.size = none
      rw [upd_ne (Nat.ne_of_gt hDC)]
      exact nC
    · have hcl := cl1 _ _ h
      obtain ⟨v, q⟩ := I2.cell x c hcl
      rw [upd_ne (Nat.ne_of_lt q.lt)]
      exact I2.freeC x c hcl
    · rw [List.append_nil] at hp
      obtain ⟨e, nn, ne, nf, d⟩ := I2.pin p hp
      have hlt := Heap.lt_size e
      refine ⟨old _ _ e, by rw [upd_ne (Nat.ne_of_lt hlt)]; exact nn, Nat.ne_of_lt (Nat.lt_trans hlt hDC), fun z => ?_, d⟩
      rcases List.mem_cons.mp (I2.stkSub p.1 z) with q | q
      · exact ne q
      · exact nf q
    · show (List.replicate (max n 1) none ++ σ).length = (tn ++ hideN tn X.N).length
      rw [List.length_append, List.length_append, List.length_replicate, hn, show (hideN tn X.N).length = X.N.length from by simp [hideN], I2.len]
  have loop : ∀ s₃ : Shared, s₃ = { s₂ with heap := h₁, toks := s₂.toks + ([] : List (Str × Value)).length } →
      codeAny (model X.prog X.w) X.A (.compLoop (.ListComp elt [⟨tg, iter, ifs, 0⟩] scope pos) 0 (.ref ia) (.ref s₂.heap.objs.size) (compEnvC scope cl HL.objs.size X.env))
        (RR (.ref s₂.heap.objs.size) HL.objs.size) s₃ := by
    intro s₃ hs₃
    have env' : X'.env = compEnvC scope cl HL.objs.size X.env := by subst hX'; rfl
    have hA : X'.A = X.A := by subst hX'; rfl
    have hP : X'.prog = X.prog := by subst hX'; rfl
    have hw : X'.w = X.w := by subst hX'; rfl
    have hK : X'.K = X.K := by subst hX'; rfl
    have hxe : X'.xe = fun _ _ => False := by subst hX'; rfl
    have hcalm : X'.calm = true := by subst hX'; exact hc
    have hfs : X'.fs = frs X.stack := by subst hX'; rfl
    have hex : X'.ex = fp := by subst hX'; rfl
    have hH₀ : X'.H₀ = H2 := by subst hX'; rfl
    have hs₀ : X'.s₀ = s₂ := by subst hX'; rfl
    have pass : ∀ {α : Type} {t : Sem α} {P : α → Shared → Prop} {E' : Value → Shared → Prop} {s : Shared}, wpAny (model X'.prog X'.w) X'.A t P X'.xe s → wpAny (model X.prog X.w) X.A t P E' s := fun {α t P E' s} h => by
      rw [hP, hw, hA, hxe] at h
      exact wpAny_mono h (fun _ _ q => q) fun _ _ q => q.elim
    refine comp_loop (fun m s' => ∃ (i : Nat) (F' H' : Hp) (vs : List V) (ys : List D) (σt : St), m = ds.length - i ∧ i ≤ ds.length ∧ σt.length = max n 1 ∧ Inv X' [] (σt ++ σ) H' s' ∧ tnn i s'.heap ∧ (∀ b ∈ fp, H' b = none) ∧ Ext F2 H2 F' H' ∧
      H' s₂.heap.objs.size = some (.lst vs) ∧ F' s₂.heap.objs.size = none ∧ DenL X.K F' ys vs ∧ compL (compF n δt δe ρ) ds = (compL (compF n δt δe ρ) (ds.drop i) >>= fun r => M.ret (ys ++ r))) ?_ ds.length ?_
    · rintro m s' ⟨i, F', H', vs, ys, σt, rfl, hile, hσt, I', st', fr', ex', hD, fD, hys, heq⟩
      by_cases hlt : i < ds.length
      · -- one more item
        obtain ⟨d, hd⟩ : ∃ d, ds[i]? = some d := ⟨_, List.getElem?_eq_getElem hlt⟩
        obtain ⟨hgo, hyld⟩ := (it2 F' H' i ex'.ff ex'.fh).1 d hd
        obtain ⟨o, ho, heq'⟩ := compL_snoc hd heq hR
        have hys_le : ys.length ≤ lim := by
          rw [heq] at hR
          obtain ⟨r, _, hr⟩ := bind_ok hR
          rw [← ret_inj hr, List.length_append] at hRl
          omega
        obtain ⟨ts, hts, ho⟩ := bind_ok ho
        refine pass ?_
        rw [hP, hw]
        refine thn (T.item X' hP hw hK hcalm i [] s' (σt ++ σ) H' X'.xe I' (fpok fr') st' hgo) ?_
        rintro r s1 ⟨u, rfl, h1⟩
        refine pass ?_
        rw [hP, hw]
        refine thn h1 ?_
        rintro _ s2 ⟨x, H3, I3, rx, y3, st3, fr3⟩
        obtain ⟨F3, ex3, q3⟩ := hyld x H3 y3
        have hD3 : H3 s₂.heap.objs.size = some (.lst vs) := ex3.hh _ _ hD
        have fD3 : F3 s₂.heap.objs.size = none := by rw [ex3.new _ (by rw [hD]; exact fun z => nomatch z)]; exact fD
        have I3' := I3.pinned (fpok fr3) (T.obj _ _ st3)
        have keepT : ∀ {σ7 : St} {H7 : Hp} {s7 : Shared}, Inv X' ([] ++ pinsAt fp s2.heap) σ7 H7 s7 → tnn (i + 1) s7.heap ∧ ∀ b ∈ fp, H7 b = none := fun {σ7 H7 s7} I7 =>
          ⟨T.keep _ _ _ st3 fun b hb o e => (I7.pin (b, o) (List.mem_append_right _ (List.mem_append_right _ (mem_pinsAt hb e)))).1, fun b hb => by
            obtain ⟨o, e, _⟩ := T.obj _ _ st3 b hb
            exact (I7.pin (b, o) (List.mem_append_right _ (List.mem_append_right _ (mem_pinsAt hb e)))).2.1⟩
        have hgX : TgOk X' tg n σ := by subst hX'; exact hg _ _ _ _ _ _ _
        have htX : TestOk X' ifs δt := by subst hX'; exact ht _ _ _ _ _ _
        have heX : PD X' (fun _ _ => False) elt δe := by subst hX'; exact he _ _ _ _ _ _
        refine pass ?_
        rw [← env']
        refine thn (hgX _ s2 (σt ++ σ) F3 H3 d ts x u I3' ex3.fh (by rw [← hσt]; simp) rx (by rw [hK]; exact q3) hts) ?_
        rintro _ s4 ⟨vt, I4, dt⟩
        rw [hK] at dt
        have S4 : StE X.K F3 H3 (vt.map some ++ σ) (ts.map (fun t => some (Sl.fz t)) ++ ρ) := StE.cons ((S.ext e2).ext (ex'.trans ex3)) dt
        obtain ⟨b, hb, ho⟩ := bind_ok ho
        refine pass ?_
        try rw [← env']
        refine thn (htX _ s4 _ H3 (fun b' H5 => b' = b ∧ ∃ F5, Ext F3 H3 F5 H5) I4 ⟨F3, _, by rw [hK]; exact S4, by rw [hb]; exact WPB.take⟩) ?_
        rintro b' s5 ⟨H5, I5, rfl, F5, ex5⟩
        have hD5 : H5 s₂.heap.objs.size = some (.lst vs) := ex5.hh _ _ hD3
        have fD5 : F5 s₂.heap.objs.size = none := by rw [ex5.new _ (by rw [hD3]; exact fun z => nomatch z)]; exact fD3
        cases b' with
        | false =>
          rw [if_neg Bool.false_ne_true] at ho ⊢
          obtain rfl := ret_inj ho
          refine ⟨ds.length - (i + 1), by omega, i + 1, F5, H5, vs, ys, vt.map some, rfl, hlt, ?_, I5.unpinned, (keepT I5).1, (keepT I5).2, ex'.trans (ex3.trans ex5), hD5, fD5, DenL.mono (ex3.trans ex5).ff hys, heq'⟩
          have h1 := I5.len
          have h2 := I3.len
          rw [List.length_append] at h1 h2
          omega
        | true =>
          rw [if_pos rfl] at ho ⊢
          obtain ⟨yv, hy, ho⟩ := bind_ok ho
          obtain rfl := ret_inj ho
          refine pass ?_
          try rw [← env']
          refine thn (heX _ s5 _ H5 (fun v H6 => ∃ F6, Ext F5 H5 F6 H6 ∧ Den X.K F6 yv v) I5 ⟨F5, _, by rw [hK]; exact S4.ext ex5, by rw [hy, hK]; exact WP.take⟩) ?_
          rintro xv s6 ⟨v, H6, I6, rv, F6, ex6, qv⟩
          have hD6 : H6 s₂.heap.objs.size = some (.lst vs) := ex6.hh _ _ hD5
          have fD6 : F6 s₂.heap.objs.size = none := by rw [ex6.new _ (by rw [hD5]; exact fun z => nomatch z)]; exact fD5
          have hvl : vs.length < sizeLine := by
            have := hys.len
            have := lim_lt
            omega
          refine pass ?_
          refine thn (mt_append _ s6 _ H6 (.ref s₂.heap.objs.size) [v] (.ref s₂.heap.objs.size) [xv] (fun _ H7 => H7 = upd H6 s₂.heap.objs.size (.lst (vs ++ [v]))) I6 rfl (.cons rv .nil) ⟨_, vs, v, rfl, rfl, hD6, hvl, rfl⟩) ?_
          rintro _ s7 ⟨_, H7, I7, _, rfl⟩
          have ex7 : Ext F2 H2 F6 (upd H6 s₂.heap.objs.size (.lst (vs ++ [v]))) := by
            have e := ex'.trans (ex3.trans (ex5.trans ex6))
            refine ⟨fun b u q => ?_, e.ff, fun b u q => ?_, e.new⟩
            · rw [upd_ne (nD' b u q)]; exact e.hh b u q
            · rw [upd_ne (fun z => by rw [z, fD6] at q; cases q)]; exact e.fh b u q
          refine ⟨ds.length - (i + 1), by omega, i + 1, F6, _, vs ++ [v], ys ++ [yv], vt.map some, rfl, hlt, ?_, I7.unpinned, (keepT I7).1, (keepT I7).2, ex7, upd_same, fD6,
            DenL.append (DenL.mono (ex3.trans (ex5.trans ex6)).ff hys) (.cons qv .nil), heq'⟩
          have h1 := I5.len
          have h2 := I3.len
          rw [List.length_append] at h1 h2
          omega
      · -- the end
        have hi : i = ds.length := by omega
        subst hi
        rw [List.drop_length] at heq
        have hRy : R = ys := by
          rw [heq] at hR
          have hR : M.ret (ys ++ []) = M.ret R := hR
          rw [← ret_inj hR, List.append_nil]
        subst hRy
        refine pass ?_
        rw [hP, hw]
        refine thn (T.done X' hP hw hK hcalm ds.length [] s' (σt ++ σ) H' X'.xe I' (fpok fr') st' ((it2 F' H' ds.length ex'.ff ex'.fh).2 (Nat.le_refl _))) ?_
        rintro r s1 ⟨rfl, I1⟩
        obtain ⟨m, hm, _⟩ := I1.loc
        rw [env'] at hm
        have hCn : H' HL.objs.size = none := by
          have := I1.free
          rw [env'] at this
          exact this
        have u := I1.base
        rw [hfs, hex, hH₀, hs₀] at u
        have hos : s1.os = s₂.os := by have := I1.os; rw [hs₀] at this; exact this
        have hhok := I1.hok
        rw [hP, hw] at hhok
        refine hRR s1 HL.objs.size s₂.heap.objs.size H' (I2.call' (s' := s1) (ch := fp) hos u hhok I1.bare (fun b hb => ⟨(f2 b hb).2.2.2.1, (f2 b hb).2.1, (f2 b hb).2.2.2.2.1, (f2 b hb).2.2.2.2.2⟩)) ?_
          ⟨⟨m, hm⟩, hCn, Nat.ne_of_gt (Nat.lt_trans I2.lt hDC), Nat.le_trans I2.sz (Nat.le_of_lt hDC), fun x c q z => ?_, fun p hp z => ?_⟩
        rotate_left
        · obtain ⟨v, q'⟩ := I2.cell x c q
          exact absurd (Nat.lt_trans q'.lt hDC) (by rw [z]; exact Nat.lt_irrefl _)
        · exact absurd (Nat.lt_trans (Heap.lt_size (I2.pin p hp).1) hDC) (by rw [z]; exact Nat.lt_irrefl _)
        refine WP.fin w2 (F' := upd F' s₂.heap.objs.size (.lst vs)) ⟨ex'.hh, fun b u q => ?_, fun b u q => ?_, fun a ha => ?_⟩ ⟨_, vs, rfl, upd_same, DenL.mono (fun b u q => ?_) hys, hRl⟩
        · rw [upd_ne (fun z => by have := ex'.ff b u q; rw [z, fD] at this; cases this)]; exact ex'.ff b u q
        · by_cases z : b = s₂.heap.objs.size
          · rw [z, upd_same] at q; rw [z, hD]; exact q
          · rw [upd_ne z] at q; exact ex'.fh b u q
        · rw [upd_ne (fun z => ha (by rw [z]; exact nD))]; exact ex'.new a ha
        · rw [upd_ne (fun z => by rw [z, fD] at q; cases q)]; exact q
    · rw [hs₃]
      refine ⟨0, F2, _, [], [], List.replicate (max n 1) none, by simp, Nat.zero_le _, by simp, I0, T.keep _ _ _ st2 (fun b hb o e => old b o e), fun b hb => ?_, ⟨fun b u q => ?_, Same.refl _, fun b u q => ?_, fun _ _ => rfl⟩, upd_same, Same.free e2.fh nD, rfl, ?_⟩
      · rw [upd_ne (Nat.ne_of_lt (fl b hb))]; exact (f2 b hb).1
      · rw [upd_ne (nD' b u q)]; exact q
      · rw [upd_ne (nD' b u (e2.fh b u q))]; exact e2.fh b u q
      · rw [List.drop_zero]
        rcases (compL (compF n δt δe ρ) ds).cs with hq | ⟨m, hq⟩ | ⟨R, hq⟩ <;> rw [hq] <;> rfl
  exact codeAny_compStart_list (loop _ rfl) (T.self X.A 0 _ _ _ (T.keep _ _ _ st2 (fun b hb o e => old b o e)) (loop _ rfl))
theorem Inv.block {X : Cx} {pins : List (Addr × Obj)} {σ : St} {H' : Hp} {s1 : Shared} {C : Addr} {h' : Heap} (I : Inv X pins σ H' s1) (b : BlockEnd X pins C H' s1) (hsb : Heap.SameBut C s1.heap h') : Inv X pins σ H' { s1 with heap := h' } :=
  I.turned (t' := s1.toks) (fun a o ha e => (hsb.2 a ha).trans e) b.free b.nl (.inr b.nw) b.nc b.np
section
variable {X : Cx} {Xw : Nat → Hp → Prop} {elt iter tg : Expr} {ifs : List Expr} {scope : Scope} {pos : Pos} {tn : List Str} {n : Nat} {δi : DA} {δt : DT} {δe : DE}
theorem pd_comp (sc : CompSc X scope tn) (hn : tn.length = max n 1) (hc : X.calm = true) (hi : PDI X Xw tg iter δi)
    (hg : ∀ pins cl C fp s₂ H σ, TgOk (compX X scope tn pins cl C fp s₂ H) tg n σ)
    (ht : ∀ pins cl C fp s₂ H, TestOk (compX X scope tn pins cl C fp s₂ H) ifs δt)
    (he : ∀ pins cl C fp s₂ H, PD (compX X scope tn pins cl C fp s₂ H) (fun _ _ => False) elt δe)
    (hs : ∀ x, foldedSetIterable iter X.env x = pure x := by intro _; rfl) :
    PD X Xw (.ListComp elt [⟨tg, iter, ifs, 0⟩] scope pos) (dComp n δi δt δe) := by
  intro pins s σ H Q I ⟨F, ρ, S, w⟩
  obtain ⟨cl, hclos, cl1, cl2⟩ := closure_of (scope := scope) (env := X.env) fun y hy hf => I.ok.has y.1 (sc.frees y hy hf)
  rw [eval_ListComp]
  refine wpAny_comprehension_free (use := none) rfl hs hclos sc.kind sc.names (comp_run (RR := fun acc C => compPost (model X.prog X.w) X.A X.xe none (EP X pins σ Q) acc C) sc hn hc hi hg ht he I S w cl1 cl2 fun s1 C D H' I1 q b => ?_)
  obtain ⟨m, hm⟩ := b.ns
  exact ⟨m, hm, fun h' hsb => ⟨.ref D, H', Inv.block I1 b hsb, rfl, q⟩⟩
end
end L3


set_option Elab.async false
set_option linter.all false
set_option maxRecDepth 100000
/-! THE PURE LAYER, 4: statements -/
namespace L3
open PySem PySem.Spec L2
open PyProof.Rows hiding St

inductive Out where
  | nx (ρ : Rho) | rt (d : D)
abbrev DS := Rho → M Out
/-- the frame at a statement: what stood at the entry stands; lists of one's own are new and apart -/
structure StOk (K : PySem.W.Frag) (F₀ H₀ F H : Hp) (σ : St) (ρ : Rho) : Prop where
  ext : Ext F₀ H₀ F H
  st : StE K F H σ ρ
  len : ρ.length = σ.length
  own : ∀ (i : Nat) (c : C) (a : Addr), ρ[i]? = some (some (.ow c)) → σ[i]? = some (some (.ref a)) → H₀ a = none
  sep : ∀ (i j : Nat) (c c' : C) (a : Addr), ρ[i]? = some (some (.ow c)) → ρ[j]? = some (some (.ow c')) → σ[i]? = some (some (.ref a)) → σ[j]? = some (some (.ref a)) → i = j
def WPS (K : PySem.W.Frag) (Xw : Nat → Hp → Prop) (F₀ H₀ : Hp) (m : M Out) (Dn : Ends) : Prop :=
  match m with
  | none => False
  | some (.ok (.nx ρ)) => ∀ σ F H, StOk K F₀ H₀ F H σ ρ → Dn.nx σ H
  | some (.ok (.rt d)) => ∀ v F H, Ext F₀ H₀ F H → Den K F d v → Dn.rt v H
  | some (.ex n) => ∀ F H, Ext F₀ H₀ F H → Xw n H
def tS (K : PySem.W.Frag) (Xw : Nat → Hp → Prop) (F₀ H₀ : Hp) (τ : DS) : TS := fun Dn σ H => ∃ F ρ, StOk K F₀ H₀ F H σ ρ ∧ WPS K Xw F₀ H₀ (τ ρ) Dn
def PSD (X : Cx) (Xw : Nat → Hp → Prop) (st : Stmt) (τ : DS) : Prop := ∀ F₀ H₀, PS X st (tS X.K Xw F₀ H₀ τ)
def PSDs (X : Cx) (Xw : Nat → Hp → Prop) (st : List Stmt) (τ : DS) : Prop := ∀ F₀ H₀, PSs X st (tS X.K Xw F₀ H₀ τ)
theorem PS.weak {X : Cx} {st : Stmt} {t t' : TS} (h : PS X st t) (k : ∀ D σ H, t' D σ H → t D σ H) : PS X st t' := fun pins s σ H D I w => h pins s σ H D I (k D σ H w)
theorem PSs.weak {X : Cx} {st : List Stmt} {t t' : TS} (h : PSs X st t) (k : ∀ D σ H, t' D σ H → t D σ H) : PSs X st t' := fun pins s σ H D I w => h pins s σ H D I (k D σ H w)

section
variable {K : PySem.W.Frag} {Xw : Nat → Hp → Prop} {F₀ H₀ F H F' H' : Hp} {σ : St} {ρ : Rho}
theorem StOk.ext' (s : StOk K F₀ H₀ F H σ ρ) (e : Ext F H F' H') : StOk K F₀ H₀ F' H' σ ρ := ⟨s.ext.trans e, s.st.ext e, s.len, s.own, s.sep⟩
theorem StOk.set (s : StOk K F₀ H₀ F H σ ρ) {i : Nat} {d : D} {v : V} (h : Den K F d v) : StOk K F₀ H₀ F H (σ.set i (some v)) (ρ.set i (some (.fz d))) := by
  have hl := s.len
  have get : ∀ (j : Nat) (sl : Sl), (ρ.set i (some (.fz d)))[j]? = some (some sl) → (j = i ∧ i < ρ.length ∧ sl = .fz d) ∨ (j ≠ i ∧ ρ[j]? = some (some sl)) := fun j sl e => by
    by_cases hj : j = i
    · subst hj
      have hi : j < ρ.length := by
        have := (List.getElem?_eq_some_iff.mp e).1
        simpa using this
      rw [List.getElem?_set_self hi] at e
      cases e
      exact .inl ⟨rfl, hi, rfl⟩
    · rw [List.getElem?_set_ne (Ne.symm hj)] at e
      exact .inr ⟨hj, e⟩
  refine ⟨s.ext, ⟨s.st.fh, fun j sl e => ?_⟩, by simp [hl], fun j c a e e' => ?_, fun j k c c' a e1 e2 e3 e4 => ?_⟩
  · rcases get j sl e with ⟨rfl, hi, rfl⟩ | ⟨hj, e⟩
    · exact ⟨v, by rw [List.getElem?_set_self (by omega)], h⟩
    · obtain ⟨u, h1, h2⟩ := s.st.den j sl e
      exact ⟨u, by rw [List.getElem?_set_ne (Ne.symm hj)]; exact h1, h2⟩
  · rcases get j _ e with ⟨_, _, z⟩ | ⟨hj, e⟩
    · cases z
    · rw [List.getElem?_set_ne (Ne.symm hj)] at e'
      exact s.own j c a e e'
  · rcases get j _ e1 with ⟨_, _, z⟩ | ⟨hj, e1⟩
    · cases z
    · rcases get k _ e2 with ⟨_, _, z⟩ | ⟨hk, e2⟩
      · cases z
      · rw [List.getElem?_set_ne (Ne.symm hj)] at e3
        rw [List.getElem?_set_ne (Ne.symm hk)] at e4
        exact s.sep j k c c' a e1 e2 e3 e4
/-- a list of one's own is let be -/
def frz (i : Nat) (ρ : Rho) : Rho := match ρ[i]? with
  | some (some (.ow c)) => ρ.set i (some (.fz c.d))
  | _ => ρ
theorem StOk.frz (s : StOk K F₀ H₀ F H σ ρ) (i : Nat) : ∃ F', StOk K F₀ H₀ F' H σ (frz i ρ) := by
  unfold L3.frz
  split
  · rename_i c₀ hi
    have hle := s.len
    obtain ⟨u, ha, a, o, rfl, q3, q4, hds⟩ := s.st.den i _ hi
    have h0 := s.own i _ a hi ha
    have hil : i < ρ.length := (List.getElem?_eq_some_iff.mp hi).1
    have ff : Same F (upd F a o) := fun b o e => by rw [upd_ne (fun z => by rw [z, q4] at e; cases e)]; exact e
    have fh : Same (upd F a o) H := fun b o e => by
      by_cases z : b = a
      · rw [z, upd_same] at e; rw [z, q3]; exact e
      · rw [upd_ne z] at e; exact s.st.fh b o e
    have get : ∀ (j : Nat) (sl : Sl), (ρ.set i (some (.fz c₀.d)))[j]? = some (some sl) → (j = i ∧ sl = .fz c₀.d) ∨ (j ≠ i ∧ ρ[j]? = some (some sl)) := fun j sl e => by
      by_cases hj : j = i
      · subst hj
        rw [List.getElem?_set_self hil] at e
        cases e
        exact .inl ⟨rfl, rfl⟩
      · rw [List.getElem?_set_ne (Ne.symm hj)] at e
        exact .inr ⟨hj, e⟩
    refine ⟨upd F a o, ⟨s.ext.hh, s.ext.ff.trans ff, fh, fun b hb => ?_⟩, ⟨fh, fun j sl e => ?_⟩, by simp [hle], fun j c' b e e' => ?_, fun j k c1 c2 b e1 e2 e3 e4 => ?_⟩
    · rw [upd_ne (fun z => hb (by rw [z]; exact h0))]; exact s.ext.new b hb
    · rcases get j sl e with ⟨rfl, rfl⟩ | ⟨hj, e⟩
      · exact ⟨.ref a, ha, DenC.den hds ff⟩
      · obtain ⟨u, h1, h2⟩ := s.st.den j sl e
        refine ⟨u, h1, ?_⟩
        cases sl with
        | fz d => exact Den.mono ff h2
        | ow c' =>
          obtain ⟨b, o', r1, r2, r3, r4⟩ := h2
          exact ⟨b, o', r1, r2, by rw [upd_ne (fun z => hj (s.sep j i c' _ a e hi (by rw [h1, r1, z]) ha))]; exact r3, DenC.mono ff r4⟩
    · rcases get j _ e with ⟨_, z⟩ | ⟨hj, e⟩
      · cases z
      · exact s.own j c' b e e'
    · rcases get j _ e1 with ⟨_, z⟩ | ⟨_, e1⟩
      · cases z
      · rcases get k _ e2 with ⟨_, z⟩ | ⟨_, e2⟩
        · cases z
        · exact s.sep j k _ _ b e1 e2 e3 e4
  · exact ⟨F, s⟩
theorem WPS.weak {m : M Out} {D D' : Ends} (h : WPS K Xw F₀ H₀ m D) (hn : ∀ σ H, D.nx σ H → D'.nx σ H) (hr : ∀ v H, D.rt v H → D'.rt v H) : WPS K Xw F₀ H₀ m D' := by
  match m, h with
  | none, h => exact h
  | some (.ok (.nx ρ)), h => exact fun σ F H s => hn _ _ (h σ F H s)
  | some (.ok (.rt d)), h => exact fun v F H e q => hr _ _ (h v F H e q)
  | some (.ex n), h => exact h
end

/-- the loop's own base: what is frozen at its start, and what stood at the entry -/
def join (F H : Hp) : Hp := fun a => match F a with
  | some o => some o
  | none => H a
theorem StOk.rebase {K : PySem.W.Frag} {F₀ H₀ F H : Hp} {σ : St} {ρ : Rho} (s : StOk K F₀ H₀ F H σ ρ) : StOk K F (join F H₀) F H σ ρ ∧ ∀ F' H', Ext F (join F H₀) F' H' → Ext F₀ H₀ F' H' := by
  have hj : Same (join F H₀) H := fun b o e => by
    unfold join at e
    cases q : F b with
    | some u => rw [q] at e; cases e; exact s.st.fh b _ q
    | none => rw [q] at e; exact s.ext.hh b o e
  have h0 : Same H₀ (join F H₀) := fun b o e => by
    unfold join
    cases q : F b with
    | some u =>
      have h1 := s.st.fh b u q
      rw [s.ext.hh b o e] at h1
      exact h1.symm
    | none => exact e
  refine ⟨⟨⟨hj, Same.refl _, s.st.fh, fun _ _ => rfl⟩, s.st, s.len, fun i c a e e' => ?_, s.sep⟩, fun F' H' x => ⟨h0.trans x.hh, s.ext.ff.trans x.ff, x.fh, fun a ha => ?_⟩⟩
  · have h1 := s.own i c a e e'
    obtain ⟨v, q1, a', o, q2, q3, q4, _⟩ := s.st.den i _ e
    rw [e'] at q1
    cases q1
    cases q2
    unfold join
    rw [q4]
    exact h1
  · have : join F H₀ a ≠ none := by
      cases q : H₀ a with
      | none => exact absurd q ha
      | some o => rw [h0 a o q]; exact fun z => nomatch z
    rw [x.new a this, s.ext.new a ha]
theorem StOk.unbase {K : PySem.W.Frag} {F₀ H₀ F U F' H' : Hp} {σ : St} {ρ : Rho} (k : ∀ F' H', Ext F U F' H' → Ext F₀ H₀ F' H') (s : StOk K F U F' H' σ ρ) (h : Same H₀ U) : StOk K F₀ H₀ F' H' σ ρ :=
  ⟨k _ _ s.ext, s.st, s.len, fun i c a e e' => Same.free h (s.own i c a e e'), s.sep⟩
theorem join_same {K : PySem.W.Frag} {F₀ H₀ F H : Hp} {σ : St} {ρ : Rho} (s : StOk K F₀ H₀ F H σ ρ) : Same H₀ (join F H₀) := fun b o e => by
  unfold join
  cases q : F b with
  | some u =>
    have h1 := s.st.fh b u q
    rw [s.ext.hh b o e] at h1
    exact h1.symm
  | none => exact e

/-! ### the statements' functions -/
def sSeq (a b : DS) : DS := fun ρ => a ρ >>= fun o => match o with | .nx ρ' => b ρ' | .rt d => M.ret (.rt d)
def sNil : DS := fun ρ => M.ret (.nx ρ)
def sRet (δ : DE) : DS := fun ρ => δ ρ >>= fun d => M.ret (.rt d)
def sExp (δ : DE) : DS := fun ρ => δ ρ >>= fun _ => M.ret (.nx ρ)
def sSet (i : Nat) (δ : DE) : DS := fun ρ => δ ρ >>= fun d => M.ret (.nx (ρ.set i (some (.fz d))))
def sIf (c : DT) (a b : DS) : DS := fun ρ => c ρ >>= fun x => if x then a ρ else b ρ
def forL (put : D → Rho → Option Rho) (body : DS) : List D → DS
  | [], ρ => M.ret (.nx ρ)
  | d :: ds, ρ => (match put d ρ with | none => M.stuck | some ρ1 => body ρ1 >>= fun o => match o with | .nx ρ2 => forL put body ds ρ2 | .rt v => M.ret (.rt v))
def putN (i : Nat) : D → Rho → Option Rho := fun d ρ => some (ρ.set i (some (.fz d)))
def sFor (put : D → Rho → Option Rho) (δi : DA) (body : DS) : DS := fun ρ => δi ρ >>= fun ds => forL put body ds ρ
section
variable {X : Cx} {Xw : Nat → Hp → Prop} {F₀ H₀ : Hp} {st : Stmt} {rest : List Stmt} {τ τ' : DS} {e : Expr} {δ : DE} {pos : Pos}
theorem psd_nil : PSDs X Xw [] sNil := fun F₀ H₀ => PSs.weak pss_nil fun D σ H ⟨F, ρ, s, w⟩ => w σ F H s
theorem psd_cons (h1 : PSD X Xw st τ) (h2 : PSDs X Xw rest τ') : PSDs X Xw (st :: rest) (sSeq τ τ') := fun F₀ H₀ => PSs.weak (pss_cons (h1 F₀ H₀) (h2 F₀ H₀)) fun D σ H ⟨F, ρ, s, w⟩ => by
  refine ⟨F, ρ, s, ?_⟩
  unfold sSeq at w
  match τ ρ, w with
  | none, w => exact w
  | some (.ok (.nx ρ')), w => exact fun σ' F' H' s' => ⟨F', ρ', s', w⟩
  | some (.ok (.rt d)), w => exact w
  | some (.ex n), w => exact w
theorem psd_one (h1 : PSD X Xw st τ) : PSDs X Xw [st] τ := fun F₀ H₀ => pss_one (h1 F₀ H₀)
theorem psd_ret (h : PD X Xw e δ) : PSD X Xw (.Return (some e) pos) (sRet δ) := fun F₀ H₀ => PS.weak (ps_ret h) fun D σ H ⟨F, ρ, s, w⟩ => by
  refine ⟨F, ρ, s.st, ?_⟩
  unfold sRet at w
  match δ ρ, w with
  | none, w => exact w
  | some (.ok d), w => exact fun v H' F' e' q => w v F' H' (s.ext.trans e') q
  | some (.ex n), w => exact fun F' H' e' => w F' H' (s.ext.trans e')
theorem psd_exp (h : PD X Xw e δ) (hs : swapsWith e none pos.line X.env = pure false := by rfl) : PSD X Xw (.Expr e pos) (sExp δ) := fun F₀ H₀ => PS.weak (ps_expr h hs) fun D σ H ⟨F, ρ, s, w⟩ => by
  refine ⟨F, ρ, s.st, ?_⟩
  unfold sExp at w
  match δ ρ, w with
  | none, w => exact w
  | some (.ok d), w => exact fun v H' F' e' q => w σ F' H' (s.ext' e')
  | some (.ex n), w => exact fun F' H' e' => w F' H' (s.ext.trans e')
theorem psd_set {i : Nat} {x : Str} {pos' : Pos} (hN : X.N.Nodup) (hi : X.N[i]? = some x) (hx : Loc X.env.scope x) (he : PD X Xw e δ) (hf : X.fn x = true ∨ X.env.scope.names.lookup x = some .local := by first | exact .inl rfl | exact .inr rfl)
    (hs : swapsWithSole [.Name x pos'] e pos.line X.env = pure false := by rfl) :
    PSD X Xw (.Assign [.Name x pos'] e pos) (sSet i δ) := fun F₀ H₀ => PS.weak (ps_asg he (pg_name hN hi hx hf) hs) fun D σ H ⟨F, ρ, s, w⟩ => by
  refine ⟨F, ρ, s.st, ?_⟩
  unfold sSet at w
  match δ ρ, w with
  | none, w => exact w
  | some (.ok d), w => exact fun v H' F' e' q => w _ F' H' ((s.ext' e').set q)
  | some (.ex n), w => exact fun F' H' e' => w F' H' (s.ext.trans e')
/-- x = [.. for .. in ..], where the store comes ahead of the block's end -/
theorem psd_setComp {elt iter tg : Expr} {ifs : List Expr} {scope : Scope} {cpos : Pos} {tn : List Str} {n : Nat} {δi : DA} {δt : DT} {δe : DE} {i : Nat} {x : Str} {pos' : Pos} (hN : X.N.Nodup) (hi' : X.N[i]? = some x) (hx : Loc X.env.scope x)
    (sc : CompSc X scope tn) (hn : tn.length = max n 1) (hc : X.calm = true) (hi : PDI X Xw tg iter δi)
    (hg : ∀ pins cl C fp s₂ H σ, TgOk (compX X scope tn pins cl C fp s₂ H) tg n σ)
    (ht : ∀ pins cl C fp s₂ H, TestOk (compX X scope tn pins cl C fp s₂ H) ifs δt)
    (he : ∀ pins cl C fp s₂ H, PD (compX X scope tn pins cl C fp s₂ H) (fun _ _ => False) elt δe)
    (hf : X.fn x = true ∨ X.env.scope.names.lookup x = some .local := by first | exact .inl rfl | exact .inr rfl)
    (hsw : swapsWith (.ListComp elt [⟨tg, iter, ifs, 0⟩] scope cpos) (some (.Name x pos')) pos.line X.env = pure true := by rfl)
    (hs : ∀ x, foldedSetIterable iter X.env x = pure x := by intro _; rfl) :
    PSD X Xw (.Assign [.Name x pos'] (.ListComp elt [⟨tg, iter, ifs, 0⟩] scope cpos) pos) (sSet i (dComp n δi δt δe)) := fun F₀ H₀ pins s σ H D I ⟨F, ρ, S, w⟩ => by
  obtain ⟨cl, hclos, cl1, cl2⟩ := closure_of (scope := scope) (env := X.env) fun y hy hf => I.ok.has y.1 (sc.frees y hy hf)
  have w' : WP X.K Xw F H (dComp n δi δt δe ρ) (fun v H' => D.nx (σ.set i (some v)) H') := by
    have w : WPS X.K Xw F₀ H₀ (dComp n δi δt δe ρ >>= fun d => M.ret (.nx (ρ.set i (some (.fz d))))) D := w
    match dComp n δi δt δe ρ, w with
    | none, w => exact w
    | some (.ok d), w => exact fun v H' F' e' q => w _ F' H' ((S.ext' e').set q)
    | some (.ex n), w => exact fun F' H' e' => w F' H' (S.ext.trans e')
  rw [exec_Assign_Name_used _ _ _ _ hsw]
  refine wpAny_bind (wpAny_standAt (wpAny_bind ?_))
  show wpAny _ X.A (do let _ ← comprehension (.ListComp elt [⟨tg, iter, ifs, 0⟩] scope cpos) scope X.env _ (newList []) false (eval iter X.env) (some (assign (.Name x pos') X.env))) _ _ s
  refine wpAny_bind (wpAny_mono (wpAny_comprehension_free (use := some (assign (.Name x pos') X.env)) (Q := fun _ s' => SP X pins D .next s') rfl hs hclos sc.kind sc.names
    (comp_run (RR := fun acc C => compPost (model X.prog X.w) X.A X.xe (some (assign (.Name x pos') X.env)) (fun _ s' => SP X pins D .next s') acc C) sc hn hc hi hg ht he I S.st w' cl1 cl2 fun s1 C D' H' I1 q b => ?_)) (fun _ s' hq => wpAny_pure (wpAny_pure hq)) fun _ _ e => e)
  show wpAny _ X.A (assign (.Name x pos') X.env (.ref D')) _ _ _
  refine wpAny_assign_Name (store_ok2 I1 hN hi' hx (v := .ref D') rfl (fun s2 I2 ⟨a, sb, ha⟩ => ?_) hf)
  have hCa : C ≠ a := by
    rcases ha with z | z
    · rw [z]; exact b.nl
    · exact Ne.symm (b.nc x a z)
  obtain ⟨m, hm⟩ := b.ns
  have hm2 : s2.heap.Ns C m := hm.sameBut sb hCa
  refine ⟨m, hm2, fun h' hsb => ⟨_, H', Inv.block I2 ⟨⟨m, hm2⟩, b.free, b.nl, b.nw, b.nc, b.np⟩ hsb, q⟩⟩
theorem psd_if {c : Expr} {a b : List Stmt} {tc : DT} (hc : PDT X Xw c tc) (ha : PSDs X Xw a τ) (hb : PSDs X Xw b τ') : PSD X Xw (.If c a b pos) (sIf tc τ τ') := fun F₀ H₀ => PS.weak (ps_if hc (ha F₀ H₀) (hb F₀ H₀)) fun D σ H ⟨F, ρ, s, w⟩ => by
  refine ⟨F, ρ, s.st, ?_⟩
  unfold sIf at w
  match tc ρ, w with
  | none, w => exact w
  | some (.ok true), w => exact fun H' F' e' => ⟨F', ρ, s.ext' e', w⟩
  | some (.ok false), w => exact fun H' F' e' => ⟨F', ρ, s.ext' e', w⟩
  | some (.ex n), w => exact fun F' H' e' => w F' H' (s.ext.trans e')
/-- what the targets of a loop ask -/
def PutOk (K : PySem.W.Frag) (g : TG) (put : D → Rho → Option Rho) : Prop := ∀ (F₀ H₀ F H : Hp) (σ : St) (ρ ρ' : Rho) (d : D) (v : V) (Q : St → Hp → Prop), StOk K F₀ H₀ F H σ ρ → Den K F d v → put d ρ = some ρ' →
  (∀ σ', StOk K F₀ H₀ F H σ' ρ' → Q σ' H) → g v σ H Q
theorem put_name {K : PySem.W.Frag} {i : Nat} : PutOk K (gName i) (putN i) := fun F₀ H₀ F H σ ρ ρ' d v Q s q e k => by
  cases e
  exact k _ (s.set q)
def tSx (K : PySem.W.Frag) (Xw : Nat → Hp → Prop) (τ : DS) : TS := fun D σ H => ∃ F₀ H₀, tS K Xw F₀ H₀ τ D σ H
theorem PSDs.ex {body : List Stmt} (h : PSDs X Xw body τ) : PSs X body (tSx X.K Xw τ) := fun pins s σ H D I ⟨F₀, H₀, w⟩ => h F₀ H₀ pins s σ H D I w
theorem psd_for {tg iter : Expr} {body : List Stmt} {δi : DA} {g : TG} {put : D → Rho → Option Rho} (hp : PassesOwn (model X.prog X.w) X.A X.env X.xe) (hc : X.calm = true) (hi : PDI X Xw tg iter δi) (hg : PG X tg g) (hput : PutOk X.K g put) (hb : PSDs X Xw body τ)
    (hs : ∀ x, foldedSetIterable iter X.env x = pure x := by intro _; rfl) : PSD X Xw (.For tg iter body [] pos) (sFor put δi τ) := fun F₀ H₀ => PS.weak (ps_for hp hc hi hg hb.ex hs) fun D σ H ⟨F, ρ, s, w⟩ => by
  refine ⟨F, ρ, s.st, ?_⟩
  unfold sFor at w
  match δi ρ, w with
  | none, w => exact w
  | some (.ex n), w => exact fun F' H' e' => w F' H' (s.ext.trans e')
  | some (.ok ds), w =>
    have w : WPS X.K Xw F₀ H₀ (forL put τ ds ρ) D := w
    intro J H1 F1 e1 itd
    obtain ⟨s1, back⟩ := (s.ext' e1).rebase
    have hU := join_same (s.ext' e1)
    generalize join F1 H₀ = U at s1 back hU
    refine ⟨fun i m σ H => m = ds.length - i ∧ i ≤ ds.length ∧ ∃ F ρ, StOk X.K F1 U F H σ ρ ∧ WPS X.K Xw F₀ H₀ (forL put τ (ds.drop i) ρ) D, ⟨ds.length, by simp, Nat.zero_le _, F1, ρ, s1, by simpa using w⟩, ?_⟩
    rintro i m σ2 H2 ⟨rfl, hile, F2, ρ2, s2, w2⟩
    by_cases hlt : i < ds.length
    · obtain ⟨d, hd⟩ : ∃ d, ds[i]? = some d := ⟨_, List.getElem?_eq_getElem hlt⟩
      obtain ⟨hgo, hyld⟩ := (itd F2 H2 i s2.ext.ff s2.st.fh).1 d hd
      have ed : ds.drop i = d :: ds.drop (i + 1) := by
        obtain ⟨hi, e⟩ := List.getElem?_eq_some_iff.mp hd
        rw [List.drop_eq_getElem_cons hi, e]
      rw [ed] at w2
      unfold forL at w2
      refine .inr ⟨hgo, fun σ' H' => ∃ F' ρ', StOk X.K F1 U F' H' σ' ρ' ∧ WPS X.K Xw F₀ H₀ (forL put τ (ds.drop (i + 1)) ρ') D, fun σ' H' ⟨F', ρ', h2, h3⟩ => ⟨ds.length - (i + 1), by omega, rfl, hlt, F', ρ', h2, h3⟩, fun x H3 y3 => ?_⟩
      obtain ⟨F3, ex3, q3⟩ := hyld x H3 y3
      match hpd : put d ρ2, w2 with
      | none, w2 => exact w2.elim
      | some ρ3, w2 =>
        refine hput F1 U F3 H3 σ2 ρ2 ρ3 d x _ (s2.ext' ex3) q3 hpd fun σ3 s3 => ⟨F1, U, F3, ρ3, s3, ?_⟩
        have w2 : WPS X.K Xw F₀ H₀ (τ ρ3 >>= fun o => match o with | .nx ρ2 => forL put τ (ds.drop (i + 1)) ρ2 | .rt v => M.ret (.rt v)) D := w2
        match τ ρ3, w2 with
        | none, w2 => exact w2
        | some (.ok (.nx ρ')), w2 => exact fun σ' F' H' s' => ⟨F', ρ', s', w2⟩
        | some (.ok (.rt d)), w2 => exact fun v F' H' e q => w2 v F' H' (back _ _ e) q
        | some (.ex n), w2 => exact fun F' H' e => w2 F' H' (back _ _ e)
    · have hi : i = ds.length := by omega
      subst hi
      rw [List.drop_length] at w2
      exact .inl ⟨(itd F2 H2 ds.length s2.ext.ff s2.st.fh).2 (Nat.le_refl _), w2 σ2 F2 H2 (s2.unbase back hU)⟩
end
end L3


set_option Elab.async false
set_option linter.all false
set_option maxRecDepth 100000
/-! THE PURE LAYER, 5: the steps -/
namespace L3
open PySem PySem.Spec L2
open PyProof.Rows hiding St

/-! ### ints -/
def gI (f : Int → Int → D) : D → D → M D
  | .int i, .int j => M.ret (f i j)
  | _, _ => M.stuck
def gIC (c : Int → Int → Bool) (f : Int → Int → D) : D → D → M D
  | .int i, .int j => if c i j then M.ret (f i j) else M.stuck
  | _, _ => M.stuck
theorem opd_I {K : PySem.W.Frag} {gv : Int → Int → V} {gd : Int → Int → D} (h : ∀ F i j, Den K F (gd i j) (gv i j)) : OpD K (rI0 gv) (gI gd) := fun Xw F H x y dx dy Q s hx hy w => by
  unfold gI at w
  split at w
  · rename_i i j
    exact ⟨i, j, hx, hy, WP.now w s (h F i j)⟩
  · exact w.elim
theorem opd_IC {K : PySem.W.Frag} {gv : Int → Int → V} {gd : Int → Int → D} {c : Int → Int → Bool} {C : Int → Int → Prop} (h : ∀ F i j, Den K F (gd i j) (gv i j)) (hc : ∀ i j, c i j = true → C i j) : OpD K (rI C gv) (gIC c gd) := fun Xw F H x y dx dy Q s hx hy w => by
  unfold gIC at w
  split at w
  · rename_i i j
    split at w
    · rename_i hcc
      exact ⟨i, j, hx, hy, hc i j hcc, WP.now w s (h F i j)⟩
    · exact w.elim
  · exact w.elim
def gAdd := gI fun i j => .int (i + j)
def gSub := gI fun i j => .int (i - j)
def gMul := gIC (fun i j => decide ((-(2 ^ 64) < i ∧ i < 2 ^ 64) ∨ (-(2 ^ 64) < j ∧ j < 2 ^ 64))) fun i j => .int (i * j)
def gDiv := gIC (fun _ j => decide (0 < j ∧ j < 1073741824)) fun i j => .int (i / j)
def gMod := gIC (fun _ j => decide (0 < j)) fun i j => .int (i % j)
def gLe := gI fun i j => .bl (decide (i ≤ j))
def gGt := gI fun i j => .bl (decide (j < i))
section
variable {X : Cx} {Xw : Nat → Hp → Prop} {a b : Expr} {δa δb : DE} {pos : Pos}
theorem pd_add (ha : PD X Xw a δa) (hb : PD X Xw b δb) : PD X Xw (.BinOp a .Add b pos) (d2 gAdd δa δb) := pd_op op_add (opd_I fun _ _ _ => rfl) ha hb
theorem pd_sub (ha : PD X Xw a δa) (hb : PD X Xw b δb) : PD X Xw (.BinOp a .Sub b pos) (d2 gSub δa δb) := pd_op op_sub (opd_I fun _ _ _ => rfl) ha hb
theorem pd_mul (ha : PD X Xw a δa) (hb : PD X Xw b δb) : PD X Xw (.BinOp a .Mult b pos) (d2 gMul δa δb) := pd_op op_mul (opd_IC (fun _ _ _ => rfl) fun i j h => by unfold CMul; exact of_decide_eq_true h) ha hb
theorem pd_div (ha : PD X Xw a δa) (hb : PD X Xw b δb) : PD X Xw (.BinOp a .FloorDiv b pos) (d2 gDiv δa δb) := pd_op op_fdiv (opd_IC (fun _ _ _ => rfl) fun i j h => by unfold CDiv; exact of_decide_eq_true h) ha hb
theorem pd_mod (ha : PD X Xw a δa) (hb : PD X Xw b δb) : PD X Xw (.BinOp a .Mod b pos) (d2 gMod δa δb) := pd_op op_mod (opd_IC (fun _ _ _ => rfl) fun i j h => of_decide_eq_true h) ha hb
theorem pt_gt (ha : PD X Xw a δa) (hb : PD X Xw b δb) : PDT X Xw (.Compare a [.Gt] [b] pos) (tB' (d2 gGt δa δb)) := pt_cmp' op_gt (opd_I fun _ _ _ => rfl) ha hb
/-! ### a list's, a tuple's, a text's item -/
def gIxL : D → D → M D
  | .lst ds, .int i => match atI ds i with | some d => M.ret d | none => M.stuck
  | _, _ => M.stuck
def gIxT : D → D → M D
  | .tup ds, .int i => match atI ds i with | some d => M.ret d | none => M.stuck
  | _, _ => M.stuck
def gIxP : D → D → M D
  | .scr ns, .int i => match atI ns i with | some n => M.ret (.int n) | none => M.stuck
  | _, _ => M.stuck
def gIxS : D → D → M D
  | .str x, .int i => match atI x.cps.toList i with | some c => M.ret (.str ⟨#[c]⟩) | none => M.stuck
  | _, _ => M.stuck
theorem DenL.atI {K : PySem.W.Frag} {F : Hp} {ds : List D} {vs : List V} (h : DenL K F ds vs) {i : Int} {d : D} (e : L2.atI ds i = some d) : ∃ v, L2.atI vs i = some v ∧ Den K F d v := by
  unfold L2.atI at e ⊢
  rw [← h.len]
  cases q : ixN ds.length i with
  | none => rw [q] at e; cases e
  | some j =>
    rw [q] at e
    exact h.get e
theorem opd_ixL {K : PySem.W.Frag} : OpD K (rIxL K) gIxL := fun Xw F H x y dx dy Q s hx hy w => by
  unfold gIxL at w
  split at w
  · rename_i ds i
    obtain ⟨a, vs, h1, h2, h3, h4⟩ := hx
    split at w
    · rename_i d e
      obtain ⟨v, e1, q⟩ := h3.atI e
      exact ⟨a, vs, i, v, h1, hy, SqL.of (s _ _ h2), e1, WP.now w s q⟩
    · exact w.elim
  · exact w.elim
theorem opd_ixT {K : PySem.W.Frag} : OpD K (rIxT K) gIxT := fun Xw F H x y dx dy Q s hx hy w => by
  unfold gIxT at w
  split at w
  · rename_i ds i
    obtain ⟨a, vs, h1, h2, h3, h4⟩ := hx
    split at w
    · rename_i d e
      obtain ⟨v, e1, q⟩ := h3.atI e
      exact ⟨a, vs, i, v, h1, hy, SqT.of (s _ _ h2), e1, WP.now w s q⟩
    · exact w.elim
  · exact w.elim
theorem opd_ixP {K : PySem.W.Frag} : OpD K (rIxL K) gIxP := fun Xw F H x y dx dy Q s hx hy w => by
  unfold gIxP at w
  split at w
  · rename_i ns i
    obtain ⟨a, h1, h2, h3⟩ := hx
    split at w
    · rename_i n e
      refine ⟨a, _, i, .int n, h1, hy, Same.seq s h2, ?_, WP.now w s rfl⟩
      unfold L2.atI at e ⊢
      rw [List.length_map]
      cases q : ixN ns.length i with
      | none => rw [q] at e; cases e
      | some j =>
        rw [q] at e
        have e : ns[j]? = some n := e
        show (ns.map V.int)[j]? = some (.int n)
        rw [List.getElem?_map, e]; rfl
    · exact w.elim
  · exact w.elim
theorem opd_ixS {K : PySem.W.Frag} : OpD K rIxS gIxS := fun Xw F H x y dx dy Q s hx hy w => by
  unfold gIxS at w
  split at w
  · rename_i z i
    obtain ⟨h1, h2⟩ := hx
    split at w
    · rename_i c e
      exact ⟨z, i, c, h1, hy, by have := lim_lt; omega, e, WP.now w s ⟨rfl, by show 1 ≤ lim; decide⟩⟩
    · exact w.elim
  · exact w.elim
theorem pd_ixL (ha : PD X Xw a δa) (hb : PD X Xw b δb) (hs : PlainIx b := by intro _ _; rfl) : PD X Xw (.Subscript a b pos) (d2 gIxL δa δb) := pd_ix ix_list opd_ixL ha hb hs
theorem pd_ixP (ha : PD X Xw a δa) (hb : PD X Xw b δb) (hs : PlainIx b := by intro _ _; rfl) : PD X Xw (.Subscript a b pos) (d2 gIxP δa δb) := pd_ix ix_list opd_ixP ha hb hs
theorem pd_ixT (ha : PD X Xw a δa) (hb : PD X Xw b δb) (hs : PlainIx b := by intro _ _; rfl) : PD X Xw (.Subscript a b pos) (d2 gIxT δa δb) := pd_ix ix_tup opd_ixT ha hb hs
theorem pd_ixS (ha : PD X Xw a δa) (hb : PD X Xw b δb) (hs : PlainIx b := by intro _ _; rfl) : PD X Xw (.Subscript a b pos) (d2 gIxS δa δb) := pd_ix ix_str opd_ixS ha hb hs
/-! ### + of texts, tuples, lists; list * int -/
def gCatL : D → D → M D
  | .lst x, .lst y => if x.length + y.length ≤ lim then M.ret (.lst (x ++ y)) else M.stuck
  | _, _ => M.stuck
def gRep : D → D → M D
  | .lst x, .int k => if (0 ≤ k ∧ k ≤ 64) ∧ x.length * k.toNat ≤ lim then M.ret (.lst (List.replicate k.toNat x).flatten) else M.stuck
  | _, _ => M.stuck
theorem str_len_append (x y : Str) : (x ++ y).length = x.length + y.length := by
  show (x.cps ++ y.cps).size = _
  simp [Str.length]
theorem pd_catL (ha : PD X Xw a δa) (hb : PD X Xw b δb) : PD X Xw (.BinOp a .Add b pos) (d2 gCatL δa δb) := pd_op op_cat (fun Xw F H x y dx dy Q s hx hy w => by
  unfold gCatL at w
  split at w
  · rename_i i j
    obtain ⟨a, vs, h1, h2, h3, h4⟩ := hx
    obtain ⟨a', vs', k1, k2, k3, k4⟩ := hy
    split at w
    · rename_i hl
      have e1 := h3.len
      have e2 := k3.len
      have := lim_lt
      refine ⟨a, a', vs, vs', h1, k1, s _ _ h2, s _ _ k2, by omega, fun p hp => ?_⟩
      exact WP.fin w (Ext.lay s hp) ⟨p, _, rfl, upd_same, DenL.mono (Ext.lay s hp).ff (h3.append k3), by rw [List.length_append]; exact hl⟩
    · exact w.elim
  · exact w.elim) ha hb
theorem DenL.rep {K : PySem.W.Frag} {F : Hp} {ds : List D} {vs : List V} (h : DenL K F ds vs) : ∀ n : Nat, DenL K F (List.replicate n ds).flatten (List.replicate n vs).flatten
  | 0 => rfl
  | n + 1 => by
    rw [List.replicate_succ, List.replicate_succ, List.flatten_cons, List.flatten_cons]
    exact h.append (DenL.rep h n)
theorem pd_rep (ha : PD X Xw a δa) (hb : PD X Xw b δb) : PD X Xw (.BinOp a .Mult b pos) (d2 gRep δa δb) := pd_op op_rep (fun Xw F H x y dx dy Q s hx hy w => by
  unfold gRep at w
  split at w
  · rename_i i k
    obtain ⟨a, vs, h1, h2, h3, h4⟩ := hx
    split at w
    · rename_i hl
      obtain ⟨⟨l1, l2⟩, l3⟩ := hl
      have e1 := h3.len
      have := lim_lt
      refine ⟨a, k, vs, h1, hy, s _ _ h2, by omega, by omega, by rw [← e1]; omega, fun p hp => ?_⟩
      exact WP.fin w (Ext.lay s hp) ⟨p, _, rfl, upd_same, DenL.mono (Ext.lay s hp).ff (h3.rep _), by rw [len_rep, Nat.mul_comm]; exact l3⟩
    · exact w.elim
  · exact w.elim) ha hb
end
end L3


set_option Elab.async false
set_option linter.all false
set_option maxRecDepth 100000
/-! THE PURE LAYER, 6: equality, however deep -/
namespace L3
open PySem PySem.Spec L2 SeqAt
open PyProof.Rows hiding St

def eqL (f : D → D → Option Bool) : List D → List D → Option Bool
  | [], [] => some true
  | x :: xs, y :: ys => match f x y, eqL f xs ys with
    | some b, some r => some (b && r)
    | _, _ => none
  | [], _ :: _ => some false
  | _ :: _, [] => some false
def eqFlat : D → D → Option Bool
  | .non, .non => some true
  | .bl a, .bl b => some (a == b)
  | .bl a, .int j => some ((if a then 1 else 0) == j)
  | .int i, .bl b => some (i == (if b then 1 else 0))
  | .int i, .int j => some (i == j)
  | .str x, .str y => some (x == y)
  | .non, .bl _ => some false
  | .non, .int _ => some false
  | .non, .str _ => some false
  | .non, .lst _ => some false
  | .non, .tup _ => some false
  | .bl _, .non => some false
  | .bl _, .str _ => some false
  | .bl _, .lst _ => some false
  | .bl _, .tup _ => some false
  | .int _, .non => some false
  | .int _, .str _ => some false
  | .int _, .lst _ => some false
  | .int _, .tup _ => some false
  | .str _, .non => some false
  | .str _, .bl _ => some false
  | .str _, .int _ => some false
  | .str _, .lst _ => some false
  | .str _, .tup _ => some false
  | .lst _, .non => some false
  | .lst _, .bl _ => some false
  | .lst _, .int _ => some false
  | .lst _, .str _ => some false
  | .lst _, .tup _ => some false
  | .tup _, .non => some false
  | .tup _, .bl _ => some false
  | .tup _, .int _ => some false
  | .tup _, .str _ => some false
  | .tup _, .lst _ => some false
  | _, _ => none
def eqF : Nat → D → D → Option Bool
  | n + 1, .tup xs, .tup ys => eqL (eqF n) xs ys
  | n + 1, .lst xs, .lst ys => eqL (eqF n) xs ys
  | n + 1, .scr xs, .lst ys => eqL (eqF n) (xs.map D.int) ys
  | _, x, y => eqFlat x y

structure EqAll (A : Around) (s : Shared) (u v : Value) (b : Bool) : Prop where
  rc : RcAt A s u v b
  ne : RcNeAt A s u v (!b)
  eq : EqAt A s u v b
section
variable {X : Cx} {pins : List (Addr × Obj)} {σ : St} {F H : Hp} {s : Shared} {A : Around}
/-- what a deep value is in the heap -/
theorem tup_at (I : Inv X pins σ H s) (hs : Same F H) {ds : List D} {v : V} {u : Value} (h : Den X.K F (.tup ds) v) (r : RelV v u) : ∃ a vs its, u = .ref a ∧ v = .ref a ∧ F a = some (.tup vs) ∧ DenL X.K F ds vs ∧ Vals vs its ∧ s.heap.IsTuple a its.toArray := by
  obtain ⟨a, vs, rfl, h2, h3, h4⟩ := h
  obtain ⟨its, r1, p1, _⟩ := I.tuple (SqT.of (hs _ _ h2))
  exact ⟨a, vs, its, r, rfl, h2, h3, r1, p1⟩
theorem lst_at (I : Inv X pins σ H s) (hs : Same F H) {ds : List D} {v : V} {u : Value} (h : Den X.K F (.lst ds) v) (r : RelV v u) : ∃ a vs its, u = .ref a ∧ v = .ref a ∧ F a = some (.lst vs) ∧ DenL X.K F ds vs ∧ Vals vs its ∧ s.heap.IsList a its.toArray := by
  obtain ⟨a, vs, rfl, h2, h3, h4⟩ := h
  obtain ⟨its, r1, p1, _⟩ := I.list (SqL.of (hs _ _ h2))
  exact ⟨a, vs, its, r, rfl, h2, h3, r1, p1.isList⟩
theorem scr_at (I : Inv X pins σ H s) (hs : Same F H) {ns : List Int} {v : V} {u : Value} (h : Den X.K F (.scr ns) v) (r : RelV v u) : ∃ a its, u = .ref a ∧ v = .ref a ∧ SqL X.K F a (ns.map V.int) ∧ Vals (ns.map V.int) its ∧ s.heap.IsList a its.toArray := by
  obtain ⟨a, rfl, h2, h3⟩ := h
  obtain ⟨its, r1, p1, _⟩ := I.list (Same.seq hs h2)
  exact ⟨a, its, r, rfl, h2, r1, p1.isList⟩
theorem flat_all (I : Inv X pins σ H s) (hs : Same F H) (hu : A.units < cLine) {x y : D} {v w : V} {u t : Value} {b : Bool} (hx : Den X.K F x v) (hy : Den X.K F y w) (rx : RelV v u) (ry : RelV w t) (e : eqFlat x y = some b) : EqAll A s u t b := by
  cases x with
  | non =>
    cases y with
    | non =>
      cases e
      cases (show _ = _ from hx)
      cases rx
      cases (show _ = _ from hy)
      cases ry
      exact ⟨RcAt.none_none, RcNeAt.none_none, EqAt.same _⟩
    | bl d =>
      cases e
      cases (show _ = _ from hx)
      cases rx
      cases (show _ = _ from hy)
      cases ry
      exact ⟨RcAt.none_bool _, RcNeAt.none_bool _, EqAt.none_bool _⟩
    | int d =>
      cases e
      cases (show _ = _ from hx)
      cases rx
      cases (show _ = _ from hy)
      obtain ⟨t2, rfl⟩ := ry
      exact ⟨RcAt.none_int _ _, RcNeAt.none_int _ _, EqAt.none_int _ _⟩
    | str d =>
      cases e
      cases (show _ = _ from hx)
      cases rx
      cases (show _ = _ from hy.1)
      obtain ⟨t2, rfl⟩ := ry
      exact ⟨RcAt.none_str _ _, RcNeAt.none_str _ _, EqAt.none_str _ _⟩
    | raw d => cases e
    | dct _ _ => cases e
    | dci _ _ => cases e
    | exc d => cases e
    | scr d => cases e
    | tup d =>
      cases e
      cases (show _ = _ from hx)
      cases rx
      obtain ⟨a2, _, _, rfl, _, _, _, _, p2⟩ := tup_at I hs hy ry
      exact ⟨RcAt.none_tuple p2 hu, RcNeAt.none_tuple p2 hu, EqAt.none_tuple p2 hu⟩
    | lst d =>
      cases e
      cases (show _ = _ from hx)
      cases rx
      obtain ⟨a2, _, _, rfl, _, _, _, _, p2⟩ := lst_at I hs hy ry
      exact ⟨RcAt.none_list p2 hu, RcNeAt.none_list p2 hu, EqAt.none_list p2 hu⟩
  | bl c =>
    cases y with
    | non =>
      cases e
      cases (show _ = _ from hx)
      cases rx
      cases (show _ = _ from hy)
      cases ry
      exact ⟨RcAt.bool_none _, RcNeAt.bool_none _, EqAt.bool_none _⟩
    | bl d =>
      cases e
      cases (show _ = _ from hx)
      cases rx
      cases (show _ = _ from hy)
      cases ry
      exact ⟨RcAt.bool_bool _ _, RcNeAt.bool_bool _ _, EqAt.bool_bool _ _⟩
    | int d =>
      cases e
      cases (show _ = _ from hx)
      cases rx
      cases (show _ = _ from hy)
      obtain ⟨t2, rfl⟩ := ry
      exact ⟨RcAt.bool_int _ _ _, RcNeAt.bool_int _ _ _, EqAt.bool_int _ _ _⟩
    | str d =>
      cases e
      cases (show _ = _ from hx)
      cases rx
      cases (show _ = _ from hy.1)
      obtain ⟨t2, rfl⟩ := ry
      exact ⟨RcAt.bool_str _ _ _, RcNeAt.bool_str _ _ _, EqAt.bool_str _ _ _⟩
    | raw d => cases e
    | dct _ _ => cases e
    | dci _ _ => cases e
    | exc d => cases e
    | scr d => cases e
    | tup d =>
      cases e
      cases (show _ = _ from hx)
      cases rx
      obtain ⟨a2, _, _, rfl, _, _, _, _, p2⟩ := tup_at I hs hy ry
      exact ⟨RcAt.bool_tuple _ p2 hu, RcNeAt.bool_tuple _ p2 hu, EqAt.bool_tuple _ p2 hu⟩
    | lst d =>
      cases e
      cases (show _ = _ from hx)
      cases rx
      obtain ⟨a2, _, _, rfl, _, _, _, _, p2⟩ := lst_at I hs hy ry
      exact ⟨RcAt.bool_list _ p2 hu, RcNeAt.bool_list _ p2 hu, EqAt.bool_list _ p2 hu⟩
  | int c =>
    cases y with
    | non =>
      cases e
      cases (show _ = _ from hx)
      obtain ⟨t1, rfl⟩ := rx
      cases (show _ = _ from hy)
      cases ry
      exact ⟨RcAt.int_none _ _, RcNeAt.int_none _ _, EqAt.int_none _ _⟩
    | bl d =>
      cases e
      cases (show _ = _ from hx)
      obtain ⟨t1, rfl⟩ := rx
      cases (show _ = _ from hy)
      cases ry
      exact ⟨RcAt.int_bool _ _ _, RcNeAt.int_bool _ _ _, EqAt.int_bool _ _ _⟩
    | int d =>
      cases e
      cases (show _ = _ from hx)
      obtain ⟨t1, rfl⟩ := rx
      cases (show _ = _ from hy)
      obtain ⟨t2, rfl⟩ := ry
      exact ⟨RcAt.int_int _ _ _ _, RcNeAt.int_int _ _ _ _, EqAt.int_int _ _ _ _⟩
    | str d =>
      cases e
      cases (show _ = _ from hx)
      obtain ⟨t1, rfl⟩ := rx
      cases (show _ = _ from hy.1)
      obtain ⟨t2, rfl⟩ := ry
      exact ⟨RcAt.int_str _ _ _ _, RcNeAt.int_str _ _ _ _, EqAt.int_str _ _ _ _⟩
    | raw d => cases e
    | dct _ _ => cases e
    | dci _ _ => cases e
    | exc d => cases e
    | scr d => cases e
    | tup d =>
      cases e
      cases (show _ = _ from hx)
      obtain ⟨t1, rfl⟩ := rx
      obtain ⟨a2, _, _, rfl, _, _, _, _, p2⟩ := tup_at I hs hy ry
      exact ⟨RcAt.int_tuple _ _ p2 hu, RcNeAt.int_tuple _ _ p2 hu, EqAt.int_tuple _ _ p2 hu⟩
    | lst d =>
      cases e
      cases (show _ = _ from hx)
      obtain ⟨t1, rfl⟩ := rx
      obtain ⟨a2, _, _, rfl, _, _, _, _, p2⟩ := lst_at I hs hy ry
      exact ⟨RcAt.int_list _ _ p2 hu, RcNeAt.int_list _ _ p2 hu, EqAt.int_list _ _ p2 hu⟩
  | str c =>
    cases y with
    | non =>
      cases e
      cases (show _ = _ from hx.1)
      obtain ⟨t1, rfl⟩ := rx
      cases (show _ = _ from hy)
      cases ry
      exact ⟨RcAt.str_none _ _, RcNeAt.str_none _ _, EqAt.str_none _ _⟩
    | bl d =>
      cases e
      cases (show _ = _ from hx.1)
      obtain ⟨t1, rfl⟩ := rx
      cases (show _ = _ from hy)
      cases ry
      exact ⟨RcAt.str_bool _ _ _, RcNeAt.str_bool _ _ _, EqAt.str_bool _ _ _⟩
    | int d =>
      cases e
      cases (show _ = _ from hx.1)
      obtain ⟨t1, rfl⟩ := rx
      cases (show _ = _ from hy)
      obtain ⟨t2, rfl⟩ := ry
      exact ⟨RcAt.str_int _ _ _ _, RcNeAt.str_int _ _ _ _, EqAt.str_int _ _ _ _⟩
    | str d =>
      cases e
      cases (show _ = _ from hx.1)
      obtain ⟨t1, rfl⟩ := rx
      cases (show _ = _ from hy.1)
      obtain ⟨t2, rfl⟩ := ry
      exact ⟨RcAt.str_str _ _ _ _, RcNeAt.str_str _ _ _ _, EqAt.str_str _ _ _ _⟩
    | raw d => cases e
    | dct _ _ => cases e
    | dci _ _ => cases e
    | exc d => cases e
    | scr d => cases e
    | tup d =>
      cases e
      cases (show _ = _ from hx.1)
      obtain ⟨t1, rfl⟩ := rx
      obtain ⟨a2, _, _, rfl, _, _, _, _, p2⟩ := tup_at I hs hy ry
      exact ⟨RcAt.str_tuple _ _ p2 hu, RcNeAt.str_tuple _ _ p2 hu, EqAt.str_tuple _ _ p2 hu⟩
    | lst d =>
      cases e
      cases (show _ = _ from hx.1)
      obtain ⟨t1, rfl⟩ := rx
      obtain ⟨a2, _, _, rfl, _, _, _, _, p2⟩ := lst_at I hs hy ry
      exact ⟨RcAt.str_list _ _ p2 hu, RcNeAt.str_list _ _ p2 hu, EqAt.str_list _ _ p2 hu⟩
  | raw _ => cases y <;> cases e
  | dct _ _ => cases y <;> cases e
  | dci _ _ => cases y <;> cases e
  | exc _ => cases y <;> cases e
  | scr c => cases y <;> cases e
  | tup c =>
    cases y with
    | non =>
      cases e
      obtain ⟨a1, _, _, rfl, _, _, _, _, p1⟩ := tup_at I hs hx rx
      cases (show _ = _ from hy)
      cases ry
      exact ⟨RcAt.tuple_none p1 hu, RcNeAt.tuple_none p1 hu, EqAt.tuple_none p1 hu⟩
    | bl d =>
      cases e
      obtain ⟨a1, _, _, rfl, _, _, _, _, p1⟩ := tup_at I hs hx rx
      cases (show _ = _ from hy)
      cases ry
      exact ⟨RcAt.tuple_bool _ p1 hu, RcNeAt.tuple_bool _ p1 hu, EqAt.tuple_bool _ p1 hu⟩
    | int d =>
      cases e
      obtain ⟨a1, _, _, rfl, _, _, _, _, p1⟩ := tup_at I hs hx rx
      cases (show _ = _ from hy)
      obtain ⟨t2, rfl⟩ := ry
      exact ⟨RcAt.tuple_int _ _ p1 hu, RcNeAt.tuple_int _ _ p1 hu, EqAt.tuple_int _ _ p1 hu⟩
    | str d =>
      cases e
      obtain ⟨a1, _, _, rfl, _, _, _, _, p1⟩ := tup_at I hs hx rx
      cases (show _ = _ from hy.1)
      obtain ⟨t2, rfl⟩ := ry
      exact ⟨RcAt.tuple_str _ _ p1 hu, RcNeAt.tuple_str _ _ p1 hu, EqAt.tuple_str _ _ p1 hu⟩
    | raw d => cases e
    | dct _ _ => cases e
    | dci _ _ => cases e
    | exc d => cases e
    | scr d => cases e
    | tup d => cases e
    | lst d =>
      cases e
      obtain ⟨a1, _, _, rfl, _, _, _, _, p1⟩ := tup_at I hs hx rx
      obtain ⟨a2, _, _, rfl, _, _, _, _, p2⟩ := lst_at I hs hy ry
      exact ⟨RcAt.tuple_list p1 p2 hu, RcNeAt.tuple_list p1 p2 hu, EqAt.tuple_list p1 p2 hu⟩
  | lst c =>
    cases y with
    | non =>
      cases e
      obtain ⟨a1, _, _, rfl, _, _, _, _, p1⟩ := lst_at I hs hx rx
      cases (show _ = _ from hy)
      cases ry
      exact ⟨RcAt.list_none p1 hu, RcNeAt.list_none p1 hu, EqAt.list_none p1 hu⟩
    | bl d =>
      cases e
      obtain ⟨a1, _, _, rfl, _, _, _, _, p1⟩ := lst_at I hs hx rx
      cases (show _ = _ from hy)
      cases ry
      exact ⟨RcAt.list_bool _ p1 hu, RcNeAt.list_bool _ p1 hu, EqAt.list_bool _ p1 hu⟩
    | int d =>
      cases e
      obtain ⟨a1, _, _, rfl, _, _, _, _, p1⟩ := lst_at I hs hx rx
      cases (show _ = _ from hy)
      obtain ⟨t2, rfl⟩ := ry
      exact ⟨RcAt.list_int _ _ p1 hu, RcNeAt.list_int _ _ p1 hu, EqAt.list_int _ _ p1 hu⟩
    | str d =>
      cases e
      obtain ⟨a1, _, _, rfl, _, _, _, _, p1⟩ := lst_at I hs hx rx
      cases (show _ = _ from hy.1)
      obtain ⟨t2, rfl⟩ := ry
      exact ⟨RcAt.list_str _ _ p1 hu, RcNeAt.list_str _ _ p1 hu, EqAt.list_str _ _ p1 hu⟩
    | raw d => cases e
    | dct _ _ => cases e
    | dci _ _ => cases e
    | exc d => cases e
    | scr d => cases e
    | tup d =>
      cases e
      obtain ⟨a1, _, _, rfl, _, _, _, _, p1⟩ := lst_at I hs hx rx
      obtain ⟨a2, _, _, rfl, _, _, _, _, p2⟩ := tup_at I hs hy ry
      exact ⟨RcAt.list_tuple p1 p2 hu, RcNeAt.list_tuple p1 p2 hu, EqAt.list_tuple p1 p2 hu⟩
    | lst d => cases e
end

def ev (f : D → D → Option Bool) (xs ys : List D) (j : Nat) : Bool := match xs[j]?, ys[j]? with
  | some x, some y => (f x y).getD false
  | _, _ => false
theorem eqL_some {f : D → D → Option Bool} : ∀ {xs ys : List D} {b : Bool}, eqL f xs ys = some b → ∀ (j : Nat) (x y : D), xs[j]? = some x → ys[j]? = some y → ∃ c, f x y = some c
  | [], _, _, _, _, _, _, h, _ => by simp at h
  | _ :: _, [], _, _, _, _, _, _, h => by simp at h
  | x :: xs, y :: ys, b, e, j, x', y', hx, hy => by
    unfold eqL at e
    split at e
    · rename_i b1 r1 e1 e2
      cases j with
      | zero => simp at hx hy; subst hx hy; exact ⟨_, e1⟩
      | succ j => exact eqL_some e2 j x' y' (by simpa using hx) (by simpa using hy)
    · cases e
theorem eqL_val {f : D → D → Option Bool} : ∀ {xs ys : List D} {b : Bool}, eqL f xs ys = some b → b = ((List.range (min xs.length ys.length)).all (ev f xs ys) && xs.length == ys.length)
  | [], [], _, e => by cases e; rfl
  | [], _ :: _, _, e => by cases e; simp
  | _ :: _, [], _, e => by cases e; simp
  | x :: xs, y :: ys, b, e => by
    unfold eqL at e
    split at e
    · rename_i b1 r1 e1 e2
      cases e
      have h := eqL_val e2
      rw [List.length_cons, List.length_cons, Nat.succ_min_succ, List.range_succ_eq_map, List.all_cons, List.all_map]
      have e0 : ev f (x :: xs) (y :: ys) 0 = b1 := by unfold ev; simp [e1]
      have e3 : (ev f (x :: xs) (y :: ys) ∘ Nat.succ) = ev f xs ys := by funext j; simp [ev, Function.comp]
      have e4 : (xs.length + 1 == ys.length + 1) = (xs.length == ys.length) := by simp
      rw [e0, e3, e4, h, Bool.and_assoc]
    · cases e
section
variable {X : Cx} {pins : List (Addr × Obj)} {σ : St} {F H : Hp} {s : Shared}
theorem eqL_refl {f : D → D → Option Bool} (h : ∀ x y v b, Den X.K F x v → Den X.K F y v → f x y = some b → b = true) : ∀ {xs ys : List D} {vs : List V} {b : Bool}, DenL X.K F xs vs → DenL X.K F ys vs → eqL f xs ys = some b → b = true
  | [], [], _, _, _, _, e => by cases e; rfl
  | [], _ :: _, _, _, h1, h2, _ => by
    cases (show _ = _ from h1)
    obtain ⟨v, r, z, _⟩ := h2
    cases z
  | _ :: _, [], _, _, h1, h2, _ => by
    cases (show _ = _ from h2)
    obtain ⟨v, r, z, _⟩ := h1
    cases z
  | x :: xs, y :: ys, _, b, ⟨v, r, e1, q1, q2⟩, ⟨v', r', e2, q3, q4⟩, e => by
    subst e1
    cases e2
    unfold eqL at e
    split at e
    · rename_i b1 r1 f1 f2
      cases e
      rw [h x y v b1 q1 q3 f1, eqL_refl h q2 q4 f2]
      rfl
    · cases e
theorem flat_refl {x y : D} {v : V} {b : Bool} (hx : Den X.K F x v) (hy : Den X.K F y v) (e : eqFlat x y = some b) : b = true := by
  cases x <;> cases y <;> first
    | (cases e; done)
    | (cases e; cases (show _ = _ from hx); cases (show _ = _ from hy); first | rfl | simp)
    | (cases e; cases (show _ = _ from hx.1); cases (show _ = _ from hy.1); simp)
    | (cases e; cases (show _ = _ from hx); cases (show _ = _ from hy.1))
    | (cases e; cases (show _ = _ from hx.1); cases (show _ = _ from hy))
    | (cases e; obtain ⟨_, _, z, _⟩ := hx; subst z; cases (show _ = _ from hy); done)
    | (cases e; obtain ⟨_, _, z, _⟩ := hx; subst z; cases (show _ = _ from hy.1); done)
    | (cases e; obtain ⟨_, z, _⟩ := hx; subst z; cases (show _ = _ from hy); done)
    | (cases e; obtain ⟨_, z, _⟩ := hx; subst z; cases (show _ = _ from hy.1); done)
    | (cases e; obtain ⟨_, _, z, _⟩ := hy; subst z; cases (show _ = _ from hx); done)
    | (cases e; obtain ⟨_, _, z, _⟩ := hy; subst z; cases (show _ = _ from hx.1); done)
    | (cases e; obtain ⟨_, z, _⟩ := hy; subst z; cases (show _ = _ from hx); done)
    | (cases e; obtain ⟨_, z, _⟩ := hy; subst z; cases (show _ = _ from hx.1); done)
    | (cases e; obtain ⟨_, _, z, h2, _⟩ := hx; obtain ⟨_, _, z', h2', _⟩ := hy; subst z; cases z'; rw [h2] at h2'; cases h2'; done)
    | (cases e; cases (show _ = _ from hx); cases (show _ = _ from hy); done)
    | (cases e; cases (show _ = _ from hx.1); cases (show _ = _ from hy.1); done)
/-- the same object is equal to itself, whatever is said of it -/
theorem eqF_refl (I : Inv X pins σ H s) (hs : Same F H) : ∀ (n : Nat) (x y : D) (v : V) (b : Bool), Den X.K F x v → Den X.K F y v → eqF n x y = some b → b = true
  | 0, x, y, v, b, hx, hy, e => flat_refl hx hy (by unfold eqF at e; exact e)
  | n + 1, x, y, v, b, hx, hy, e => by
    unfold eqF at e
    split at e
    · rename_i xs ys _
      obtain ⟨a, vs, rfl, h2, h3, _⟩ := hx
      obtain ⟨a', vs', z, k2, k3, _⟩ := hy
      cases z
      rw [h2] at k2
      cases k2
      exact eqL_refl (eqF_refl I hs _) h3 k3 (by simpa using e)
    · rename_i xs ys _
      obtain ⟨a, vs, rfl, h2, h3, _⟩ := hx
      obtain ⟨a', vs', z, k2, k3, _⟩ := hy
      cases z
      rw [h2] at k2
      cases k2
      exact eqL_refl (eqF_refl I hs _) h3 k3 (by simpa using e)
    · rename_i xs ys _
      obtain ⟨a, rfl, h2, _⟩ := hx
      obtain ⟨a', vs', z, k2, k3, _⟩ := hy
      cases z
      have hv := I.list_inj (Same.seq hs h2) (SqL.of (hs _ _ k2))
      rw [← hv] at k3
      exact eqL_refl (eqF_refl I hs _) (DenL.ints xs) k3 (by simpa using e)
    · exact flat_refl hx hy e
theorem Vals.at {vs : List V} {its : List Value} (r : Vals vs its) {j : Nat} (h : j < its.toArray.size) : ∃ v, vs[j]? = some v ∧ RelV v its.toArray[j] := by
  have hl := r.length
  have hj : j < vs.length := by rw [List.size_toArray] at h; omega
  obtain ⟨u, e1, e2⟩ := r.get (List.getElem?_eq_getElem hj)
  refine ⟨vs[j], List.getElem?_eq_getElem hj, ?_⟩
  have : its.toArray[j] = u := by
    have := (List.getElem?_eq_some_iff.mp e1).2
    simpa using this
  rw [this]
  exact e2
theorem elts_at {f : D → D → Option Bool} {A : Around} {xs ys : List D} {vs ws : List V} {its its2 : List Value} {b : Bool} (h1 : DenL X.K F xs vs) (h2 : DenL X.K F ys ws) (r1 : Vals vs its) (r2 : Vals ws its2) (e : eqL f xs ys = some b)
    (ih : ∀ x y v w u t c, Den X.K F x v → Den X.K F y w → RelV v u → RelV w t → f x y = some c → EqAt A s u t c) :
    ∀ j (k1 : j < its.toArray.size) (k2 : j < its2.toArray.size), EqAt A s its.toArray[j] its2.toArray[j] (ev f xs ys j) := fun j k1 k2 => by
  obtain ⟨v, e1, q1⟩ := Vals.at r1 k1
  obtain ⟨w, e2, q2⟩ := Vals.at r2 k2
  obtain ⟨x, e3, q3⟩ := h1.at e1
  obtain ⟨y, e4, q4⟩ := h2.at e2
  obtain ⟨c, hc⟩ := eqL_some e j x y e3 e4
  have : ev f xs ys j = c := by unfold ev; rw [e3, e4]; simp [hc]
  rw [this]
  exact ih x y v w _ _ c q3 q4 q1 q2 hc
theorem lists_all {f : D → D → Option Bool} {A : Around} (hu : A.units < cLine) {xs ys : List D} {vs ws : List V} {its its2 : List Value} {b : Bool} {a a' : Addr} (h1 : DenL X.K F xs vs) (h2 : DenL X.K F ys ws) (r1 : Vals vs its) (r2 : Vals ws its2)
    (p1 : s.heap.IsList a its.toArray) (p2 : s.heap.IsList a' its2.toArray) (e : eqL f xs ys = some b) (hr : a = a' → b = true)
    (ih : ∀ x y v w u t c, Den X.K F x v → Den X.K F y w → RelV v u → RelV w t → f x y = some c → EqAt A.in1 s u t c) : EqAll A s (.ref a) (.ref a') b := by
  have l1 := h1.len
  have l2 := h2.len
  have l3 := r1.length
  have l4 := r2.length
  have hv := eqL_val e
  have core : RcAt A s (.ref a) (.ref a') b ∧ RcNeAt A s (.ref a) (.ref a') (!b) := by
    by_cases hl : xs.length = ys.length
    · have hsz : its.toArray.size = its2.toArray.size := by rw [List.size_toArray, List.size_toArray]; omega
      have hb : b = (List.range its.toArray.size).all (ev f xs ys) := by
        rw [hv, hl, Nat.min_self, beq_self_eq_true, Bool.and_true]
        congr 2
        rw [List.size_toArray]; omega
      rw [hb]
      exact ⟨RcAt.lists p1 p2 hsz hu (elts_at h1 h2 r1 r2 e ih), RcNeAt.lists p1 p2 hsz hu (elts_at h1 h2 r1 r2 e ih)⟩
    · have hb : b = false := by rw [hv, show (xs.length == ys.length) = false from by simpa using hl, Bool.and_false]
      have hsz : (its.toArray.size != its2.toArray.size) = true := by
        rw [List.size_toArray, List.size_toArray]
        simp
        omega
      rw [hb]
      exact ⟨RcAt.lists_lengths p1 p2 hsz hu, RcNeAt.lists_lengths p1 p2 hsz hu⟩
  refine ⟨core.1, core.2, ?_⟩
  by_cases hq : a = a'
  · rw [hr hq]
    subst hq
    exact EqAt.same _
  · exact EqAt.of_refs hq core.1
theorem tuples_all {f : D → D → Option Bool} {A : Around} (hu : A.units < cLine) {xs ys : List D} {vs ws : List V} {its its2 : List Value} {b : Bool} {a a' : Addr} (h1 : DenL X.K F xs vs) (h2 : DenL X.K F ys ws) (r1 : Vals vs its) (r2 : Vals ws its2)
    (p1 : s.heap.IsTuple a its.toArray) (p2 : s.heap.IsTuple a' its2.toArray) (e : eqL f xs ys = some b) (hr : a = a' → b = true)
    (ih : ∀ x y v w u t c, Den X.K F x v → Den X.K F y w → RelV v u → RelV w t → f x y = some c → EqAt A.in1 s u t c) : EqAll A s (.ref a) (.ref a') b := by
  have l1 := h1.len
  have l2 := h2.len
  have l3 := r1.length
  have l4 := r2.length
  have hb : b = ((List.range (min its.toArray.size its2.toArray.size)).all (ev f xs ys) && its.toArray.size == its2.toArray.size) := by
    rw [eqL_val e, List.size_toArray, List.size_toArray, ← l3, ← l4, ← l1, ← l2]
  have core : RcAt A s (.ref a) (.ref a') b ∧ RcNeAt A s (.ref a) (.ref a') (!b) := by
    rw [hb]
    exact ⟨RcAt.tuples p1 p2 hu (elts_at h1 h2 r1 r2 e ih), RcNeAt.tuples p1 p2 hu (elts_at h1 h2 r1 r2 e ih)⟩
  refine ⟨core.1, core.2, ?_⟩
  by_cases hq : a = a'
  · rw [hr hq]
    subst hq
    exact EqAt.same _
  · exact EqAt.of_refs hq core.1
theorem eq_all (I : Inv X pins σ H s) (hs : Same F H) : ∀ (n : Nat) (A : Around) (x y : D) (v w : V) (u t : Value) (b : Bool), A.units + n < cLine → Den X.K F x v → Den X.K F y w → RelV v u → RelV w t → eqF n x y = some b → EqAll A s u t b
  | 0, A, x, y, v, w, u, t, b, hu, hx, hy, rx, ry, e => flat_all I hs (by omega) hx hy rx ry (by unfold eqF at e; exact e)
  | n + 1, A, x, y, v, w, u, t, b, hu, hx, hy, rx, ry, e => by
    have hu0 : A.units < cLine := by omega
    have hu1 : A.in1.units + n < cLine := by show A.units + 1 + n < cLine; omega
    have hrefl := eqF_refl (F := F) I hs (n + 1) x y
    have ih : ∀ x y v w u t c, Den X.K F x v → Den X.K F y w → RelV v u → RelV w t → eqF n x y = some c → EqAt A.in1 s u t c := fun x y v w u t c q1 q2 q3 q4 q5 => (eq_all I hs n A.in1 x y v w u t c hu1 q1 q2 q3 q4 q5).eq
    have e0 := e
    unfold eqF at e
    split at e
    · rename_i xs ys heq
      cases heq
      obtain ⟨a, vs, its, rfl, ev1, h2, h3, r1, p1⟩ := tup_at I hs hx rx
      obtain ⟨a', vs', its', rfl, ev2, k2, k3, r1', p1'⟩ := tup_at I hs hy ry
      exact tuples_all hu0 h3 k3 r1 r1' p1 p1' e (fun z => by subst z; exact hrefl v b hx (by rw [ev1, ← ev2]; exact hy) e0) ih
    · rename_i xs ys heq
      cases heq
      obtain ⟨a, vs, its, rfl, ev1, h2, h3, r1, p1⟩ := lst_at I hs hx rx
      obtain ⟨a', vs', its', rfl, ev2, k2, k3, r1', p1'⟩ := lst_at I hs hy ry
      exact lists_all hu0 h3 k3 r1 r1' p1 p1' e (fun z => by subst z; exact hrefl v b hx (by rw [ev1, ← ev2]; exact hy) e0) ih
    · rename_i xs ys heq
      cases heq
      obtain ⟨a, its, rfl, ev1, h2, r1, p1⟩ := scr_at I hs hx rx
      obtain ⟨a', vs', its', rfl, ev2, k2, k3, r1', p1'⟩ := lst_at I hs hy ry
      exact lists_all hu0 (DenL.ints _) k3 r1 r1' p1 p1' e (fun z => by subst z; exact hrefl v b hx (by rw [ev1, ← ev2]; exact hy) e0) ih
    · exact flat_all I hs hu0 hx hy rx ry e
end

/-! ### == and != , in and not in -/
def gEq (x y : D) : M D := match eqF 6 x y with | some b => M.ret (.bl b) | none => M.stuck
def gNe (x y : D) : M D := match eqF 6 x y with | some b => M.ret (.bl (!b)) | none => M.stuck
def rEqD (K : PySem.W.Frag) : R2 := fun x y H Q => ∃ F dx dy b, Same F H ∧ Den K F dx x ∧ Den K F dy y ∧ eqF 6 dx dy = some b ∧ Q (.bl b) H
def rNeD (K : PySem.W.Frag) : R2 := fun x y H Q => ∃ F dx dy b, Same F H ∧ Den K F dx x ∧ Den K F dy y ∧ eqF 6 dx dy = some b ∧ Q (.bl (!b)) H
section
variable {X : Cx} {Xw : Nat → Hp → Prop} {a b : Expr} {δa δb : DE} {pos : Pos}
theorem op_eqD (hu : X.A.units + 64 < cLine) : OpR X (compareOp .Eq) (rEqD X.K) := by
  intro pins s σ H x y v u Q I rx ry h
  obtain ⟨F, dx, dy, b, hs, hx, hy, e, q⟩ := h
  exact (eq_all I hs 6 X.A dx dy x y v u b (by omega) hx hy rx ry e).rc _ _ _ _ ⟨.bl b, H, I, rfl, q⟩
theorem op_neD (hu : X.A.units + 64 < cLine) : OpR X (compareOp .NotEq) (rNeD X.K) := by
  intro pins s σ H x y v u Q I rx ry h
  obtain ⟨F, dx, dy, b, hs, hx, hy, e, q⟩ := h
  exact (eq_all I hs 6 X.A dx dy x y v u b (by omega) hx hy rx ry e).ne _ _ _ _ ⟨.bl (!b), H, I, rfl, q⟩
theorem opd_eq {K : PySem.W.Frag} : OpD K (rEqD K) gEq := fun Xw F H x y dx dy Q s hx hy w => by
  unfold gEq at w
  split at w
  · rename_i b e
    exact ⟨F, dx, dy, b, s, hx, hy, e, WP.now w s rfl⟩
  · exact w.elim
theorem opd_ne {K : PySem.W.Frag} : OpD K (rNeD K) gNe := fun Xw F H x y dx dy Q s hx hy w => by
  unfold gNe at w
  split at w
  · rename_i b e
    exact ⟨F, dx, dy, b, s, hx, hy, e, WP.now w s rfl⟩
  · exact w.elim
theorem pt_eq (hu : X.A.units + 64 < cLine) (ha : PD X Xw a δa) (hb : PD X Xw b δb) : PDT X Xw (.Compare a [.Eq] [b] pos) (tB' (d2 gEq δa δb)) := pt_cmp' (op_eqD hu) opd_eq ha hb
theorem pt_ne (hu : X.A.units + 64 < cLine) (ha : PD X Xw a δa) (hb : PD X Xw b δb) : PDT X Xw (.Compare a [.NotEq] [b] pos) (tB' (d2 gNe δa δb)) := pt_cmp' (op_neD hu) opd_ne ha hb
theorem pd_eq (hu : X.A.units + 64 < cLine) (ha : PD X Xw a δa) (hb : PD X Xw b δb) : PD X Xw (.Compare a [.Eq] [b] pos) (d2 gEq δa δb) := pd_cmp (op_eqD hu) opd_eq ha hb
end
end L3


set_option Elab.async false
set_option linter.all false
set_option maxRecDepth 100000
/-! THE PURE LAYER, 7: tests, calls of built-ins, calls of the text's own defs -/
namespace L3
open PySem PySem.Spec L2 SeqAt
open PyProof.Rows hiding St

/-! ### tests -/
def PDW (X : Cx) (Xw : Nat → Hp → Prop) (e : Expr) (δ : DT) : Prop := PW X e (tDT X.K Xw δ)
theorem PW.weak {X : Cx} {e : Expr} {t t' : TT} (h : PW X e t) (k : ∀ σ H Q, t' σ H Q → t σ H Q) : PW X e t' := fun wh pins s σ H Q I w => h wh pins s σ H Q I (k σ H Q w)
section
variable {X : Cx} {Xw : Nat → Hp → Prop} {a b c : Expr} {rest : List Expr} {δa δb δc : DE} {τa τb : DT} {pos : Pos}
theorem pdw_or1 (ha : PDT X Xw a τa) : PDW X Xw (.BoolOp .Or [a] pos) τa := pw_or1 ha
theorem pdw_or (ha : PDT X Xw a τa) (hb : PDW X Xw (.BoolOp .Or (b :: rest) pos) τb) : PDW X Xw (.BoolOp .Or (a :: b :: rest) pos) (dOr τa τb) := PW.weak (pw_or ha hb) fun σ H Q ⟨F, ρ, s, w⟩ => by
  refine ⟨F, ρ, s, WPB.mono (WPB.bindB w) fun v H1 ⟨F1, e1, w1⟩ => ?_⟩
  cases v with
  | false => exact ⟨F1, ρ, s.ext e1, w1⟩
  | true => exact w1 _ _ (Ext.refl e1.fh)
theorem PDW.t (h : PDW X Xw a τa) : PDT X Xw a τa := PW.pt h
theorem pdt_not (ha : PDT X Xw a τa) : PDT X Xw (.UnaryOp .Not a pos) (dNot τa) := PT.weak (pt_not ha) fun σ H Q ⟨F, ρ, s, w⟩ =>
  ⟨F, ρ, s, WPB.mono (WPB.bindB w) fun v H1 ⟨F1, e1, w1⟩ => w1 _ _ (Ext.refl e1.fh)⟩
/-- a value's truth -/
def truM : D → M Bool
  | .non => M.ret false
  | .bl b => M.ret b
  | .lst ds => M.ret (!ds.isEmpty)
  | .tup ds => M.ret (!ds.isEmpty)
  | _ => M.stuck
def dTru (δ : DE) : DT := fun ρ => δ ρ >>= truM
theorem DenL.isEmpty {K : PySem.W.Frag} {F : Hp} {ds : List D} {vs : List V} (h : DenL K F ds vs) : ds.isEmpty = vs.isEmpty := by
  have := h.len
  cases ds <;> cases vs <;> simp_all
theorem pdt_tru (ha : PD X Xw a δa) (he : ∀ whole, isTrue a X.env whole = (do let v ← whole; standAt a.pos; holding [v] (truthy v)) := by intro _; rfl) : PDT X Xw a (dTru δa) := PT.weak (pt_truth ha he) fun σ H Q ⟨F, ρ, s, w⟩ => by
  refine ⟨F, ρ, s, WP.mono (WPB.bind (K := X.K) w) fun v H1 ⟨F1, d, e1, q1, w1⟩ => ?_⟩
  cases d with
  | non => cases (show _ = _ from q1); exact ⟨false, rfl, w1 _ _ (Ext.refl e1.fh)⟩
  | bl b => cases (show _ = _ from q1); exact ⟨b, rfl, w1 _ _ (Ext.refl e1.fh)⟩
  | lst ds =>
    obtain ⟨a, vs, rfl, h2, h3, _⟩ := q1
    exact ⟨!ds.isEmpty, .inl ⟨vs, SqL.of (e1.fh _ _ h2), by rw [h3.isEmpty]⟩, w1 _ _ (Ext.refl e1.fh)⟩
  | tup ds =>
    obtain ⟨a, vs, rfl, h2, h3, _⟩ := q1
    exact ⟨!ds.isEmpty, .inr (.inl ⟨vs, SqT.of (e1.fh _ _ h2), by rw [h3.isEmpty]⟩), w1 _ _ (Ext.refl e1.fh)⟩
  | _ => exact w1.elim
/-! ### and, or, not, if-else as values -/
theorem pd_one {op} (h : PD X Xw a δa) : PD X Xw (.BoolOp op [a] pos) δa := pe_one h
theorem pd_and (ha : PD X Xw a δa) (hb : PD X Xw (.BoolOp .And (b :: rest) pos) δb) : PD X Xw (.BoolOp .And (a :: b :: rest) pos) (dAndV δa δb) := PE.weak (pe_and ha hb) fun σ H Q ⟨F, ρ, s, w⟩ => by
  refine ⟨F, ρ, s, WP.mono (WP.bind w) fun v H1 ⟨F1, d, e1, q1, w1⟩ => ?_⟩
  cases d with
  | bl k =>
    refine ⟨k, q1, ?_⟩
    cases k with
    | true => exact ⟨F1, ρ, s.ext e1, w1⟩
    | false => exact WP.now w1 e1.fh rfl
  | _ => exact w1.elim
theorem pd_if (hc : PDT X Xw c τa) (ha : PD X Xw a δa) (hb : PD X Xw b δb) : PD X Xw (.IfExp c a b pos) (dIf τa δa δb) := PE.weak (pe_ifExp hc ha hb) fun σ H Q ⟨F, ρ, s, w⟩ => by
  refine ⟨F, ρ, s, WPB.mono (WP.bindB w) fun v H1 ⟨F1, e1, w1⟩ => ?_⟩
  cases v with
  | true => exact ⟨F1, ρ, s.ext e1, w1⟩
  | false => exact ⟨F1, ρ, s.ext e1, w1⟩
/-! ### a op b op c, of ints -/
def chI (p q : Int → Int → Bool) (a b c : DE) : DE := fun ρ => a ρ >>= fun x => b ρ >>= fun y => match x, y with
  | .int i, .int j => if p i j then c ρ >>= fun z => gI (fun i j => .bl (q i j)) y z else M.ret (.bl false)
  | _, _ => M.stuck
theorem tChain_of {p q : Int → Int → Bool} : ∀ σ H Q, tD X.K Xw (chI p q δa δb δc) σ H Q → tChain (rI0 fun i j => .bl (p i j)) (rI0 fun i j => .bl (q i j)) (tD X.K Xw δa) (tD X.K Xw δb) (tD X.K Xw δc) σ H Q := fun σ H Q ⟨F, ρ, s, w⟩ => by
  refine ⟨F, ρ, s, WP.mono (WP.bind w) fun v H1 ⟨F1, d, e1, q1, w1⟩ => ?_⟩
  refine ⟨F1, ρ, s.ext e1, WP.mono (WP.bind w1) fun u H2 ⟨F2, d', e2, q2, w2⟩ => ?_⟩
  cases d with
  | int i =>
    cases d' with
    | int j =>
      refine ⟨i, j, q1, q2, p i j, rfl, ?_⟩
      have w2 : WP X.K Xw F2 H2 (if p i j then δc ρ >>= fun z => gI (fun i j => .bl (q i j)) (.int j) z else M.ret (.bl false)) Q := w2
      cases hp : p i j with
      | false =>
        rw [hp] at w2
        exact WP.now w2 e2.fh rfl
      | true =>
        rw [hp] at w2
        refine ⟨F2, ρ, (s.ext e1).ext e2, WP.mono (WP.bind w2) fun u' H3 ⟨F3, d'', e3, q3, w3⟩ => ?_⟩
        exact opd_I (K := X.K) (gv := fun i j => .bl (q i j)) (gd := fun i j => .bl (q i j)) (fun _ _ _ => rfl) Xw F3 H3 u u' (.int j) d'' Q e3.fh q2 q3 w3
    | _ => exact w2.elim
  | _ => exact w2.elim
theorem pt_chI {op op' : CmpOp} {p q : Int → Int → Bool} (ho : OpR X (compareOp op) (rI0 fun i j => .bl (p i j))) (ho' : OpR X (compareOp op') (rI0 fun i j => .bl (q i j))) (ha : PD X Xw a δa) (hb : PD X Xw b δb) (hc : PD X Xw c δc)
    (hm : lastMarks [op, op'] [b, c] = false := by with_unfolding_all rfl) : PDT X Xw (.Compare a [op, op'] [b, c] pos) (tB' (chI p q δa δb δc)) := PT.weak (pt_chain ho ho' ha hb hc hm) fun σ H Q ⟨F, ρ, s, w⟩ => by
  refine tChain_of σ H _ ⟨F, ρ, s, WP.mono (WPB.bind w) fun v H1 ⟨F1, d, e1, q1, w1⟩ => ?_⟩
  cases d with
  | bl k => exact ⟨k, q1, w1 _ _ (Ext.refl e1.fh)⟩
  | _ => exact w1.elim

/-! ### built-ins -/
/-- what a built-in asks of its arguments -/
def CallD (K : PySem.W.Frag) (r : List V → Hp → VK → Prop) (g : List D → M D) : Prop := ∀ (Xw : Nat → Hp → Prop) (F H : Hp) (vs : List V) (ds : List D) (Q : VK), Same F H → DenL K F ds vs → WP K Xw F H (g ds) Q → r vs H Q
variable {x : Str} {p : Pos} {e : Expr} {es : List Expr} {δs : DA} {id T : String} {r : List V → Hp → VK → Prop} {g : List D → M D}
theorem tCB_of (h : CallD X.K r g) : ∀ σ H Q, tD X.K Xw (dA g δs) σ H Q → tCB r (tDA X.K Xw δs) σ H Q := fun σ H Q ⟨F, ρ, s, w⟩ =>
  ⟨F, ρ, s, WPL.mono (WP.bindL w) fun vs H1 ⟨F1, ds, e1, q1, w1⟩ => h Xw F1 H1 vs ds Q e1.fh q1 w1⟩
theorem pd_callB (hc : CallR X (.builtin id) r) (hd : CallD X.K r g) (hg : Gl X x) (hm : X.mg x = none) (hv : bootBuiltins x = some (.builtin id)) (ha : PDA X Xw (e :: es) δs) (hn : x ≠ "__name__" := by decide) (hdb : (x == ("__debug__" : Str)) = false := by decide)
    (he : starEach (e :: es) X.env = (false, eval e X.env) :: starEach es X.env := by rfl) (hpl : (backTo pos (starEach es X.env)).any (·.1) = false := by rfl) : PD X Xw (.Call (.Name x p) (e :: es) [] pos) (dA g δs) :=
  PE.weak (pe_callB hc hg hm hv ha hn hdb he hpl) (tCB_of hd)
theorem pd_callTy (hc : CallR X (.type T) r) (hd : CallD X.K r g) (hg : Gl X x) (hm : X.mg x = none) (hv : bootBuiltins x = some (.type T)) (ha : PDA X Xw (e :: es) δs) (hn : x ≠ "__name__" := by decide) (hdb : (x == ("__debug__" : Str)) = false := by decide)
    (he : starEach (e :: es) X.env = (false, eval e X.env) :: starEach es X.env := by rfl) (hpl : (backTo pos (starEach es X.env)).any (·.1) = false := by rfl) : PD X Xw (.Call (.Name x p) (e :: es) [] pos) (dA g δs) :=
  PE.weak (pe_callTy hc hg hm hv ha hn hdb he hpl) (tCB_of hd)
def lenM : List D → M D
  | [.lst ds] => M.ret (.int ds.length)
  | [.tup ds] => M.ret (.int ds.length)
  | [.str x] => M.ret (.int x.length)
  | [.scr ns] => M.ret (.int ns.length)
  | _ => M.stuck
theorem len_callD : CallD X.K (fun xs H Q => (∃ p ys, xs = [.ref p] ∧ (SqL X.K H p ys ∨ SqT X.K H p ys) ∧ Q (.int ys.length) H) ∨ ∃ z, xs = [.str z] ∧ z.length ≤ sizeLine ∧ Q (.int z.length) H) lenM := fun Xw F H vs ds Q s h w => by
  unfold lenM at w
  split at w
  · obtain ⟨v, rfl, h1⟩ := h.one
    obtain ⟨a, vs, rfl, h2, h3, _⟩ := h1
    exact .inl ⟨a, vs, rfl, .inl (SqL.of (s _ _ h2)), by rw [← h3.len]; exact WP.now w s rfl⟩
  · obtain ⟨v, rfl, h1⟩ := h.one
    obtain ⟨a, vs, rfl, h2, h3, _⟩ := h1
    exact .inl ⟨a, vs, rfl, .inr (SqT.of (s _ _ h2)), by rw [← h3.len]; exact WP.now w s rfl⟩
  · obtain ⟨v, rfl, h1⟩ := h.one
    cases (show _ = _ from h1.1)
    exact .inr ⟨_, rfl, by have := h1.2; have := lim_lt; omega, WP.now w s rfl⟩
  · obtain ⟨v, rfl, h1⟩ := h.one
    obtain ⟨a, rfl, h2, _⟩ := h1
    exact .inl ⟨a, _, rfl, .inl (Same.seq s h2), by rw [List.length_map]; exact WP.now w s rfl⟩
  · exact w.elim
theorem pd_len (hg : Gl X "len") (hm : X.mg "len" = none) (ha : PDA X Xw [e] δs) (he : starEach [e] X.env = [(false, eval e X.env)] := by rfl) : PD X Xw (.Call (.Name "len" p) [e] [] pos) (dA lenM δs) :=
  pd_callB (call_len_seq.or call_len_str) len_callD hg hm PySem.boot_len ha (by decide) (by decide) he rfl
end
end L3


set_option Elab.async false
set_option linter.all false
set_option maxRecDepth 100000
/-! THE PURE LAYER, 8: the promise of a def, and its call -/
namespace L3
open PySem PySem.Spec L2 SeqAt
open PyProof.Rows hiding St

theorem WP.xw {K : PySem.W.Frag} {Xw Xw' : Nat → Hp → Prop} {F H : Hp} {m : M D} {Q : VK} (h : WP K Xw F H m Q) (k : ∀ n H, Xw n H → Xw' n H) : WP K Xw' F H m Q := by
  match m, h with
  | none, h => exact h
  | some (.ok d), h => exact h
  | some (.ex n), h => exact fun F' H' e => k n H' (h F' H' e)
/-- no exception leaves this statement -/
theorem psd_nox {X : Cx} {Xw : Nat → Hp → Prop} {st : Stmt} {τ : DS} (h : PSD X.nox (fun _ _ => False) st τ) : PSD X Xw st (fun ρ => noex (τ ρ)) := fun F₀ H₀ pins s σ H D I ⟨F, ρ, S, w⟩ => by
  have w : WPS X.K Xw F₀ H₀ (noex (τ ρ)) D := w
  have w' : tS X.K (fun _ _ => False) F₀ H₀ τ D σ H := by
    refine ⟨F, ρ, S, ?_⟩
    rcases (τ ρ).cs with e | ⟨n, e⟩ | ⟨o, e⟩
    · rw [e] at w; exact w.elim
    · rw [e] at w; exact w.elim
    · rw [e] at w ⊢
      cases o with
      | nx ρ' => exact w
      | rt d => exact w
  refine wpAny_mono (h F₀ H₀ pins s σ H D (I.wish _) w') (fun f s' q => SP.unwish q) fun _ _ z => z.elim
/-- the exceptions that are wished, by their classes -/
def EX (cv : Nat → Value) (Xw : Nat → Hp → Prop) : XK := fun c _ H => ∃ n, c = cv n ∧ Xw n H
/-- THE PROMISE of a def: what it tells is f of what it is handed -/
def spD (K : PySem.W.Frag) (cv : Nat → Value) (k : Nat) (f : List D → M D) : Sp := fun vs H Q E => ∃ F ds, Same F H ∧ DenL K F ds vs ∧ vs.length = k ∧ WP K (fun n H' => E (cv n) none H') F H (f ds) Q
/-- a body run at its arguments -/
def runD (n : Nat) (τ : DS) : List D → M D := fun ds => τ (ds.map (fun d => some (Sl.fz d)) ++ List.replicate (n - ds.length) none) >>= fun o => match o with
  | .nx _ => M.ret .non
  | .rt d => M.ret d
section
variable {P : Program} {w : World} {K : PySem.W.Frag} {mg : Str → Option Value} {base : Heap} {CX : CXT} {cv : Nat → Value}
theorem fn_D {x qual : Str} {st : Stmt} {f : Addr} {fd : FuncData} {N ps : List Str} {k : Nat} {τ : DS} (Fn : Fun K x qual st f fd) (S : FnScope N ps (defScope st))
    (hbody : ∀ (cdv : Value) (A : Around) (outer : List Env) (s : Shared) (H : Hp) (E : XK), Room k (A.deeper (envOfC qual (defScope st) s.heap.objs.size f cdv)) →
      PSDs (cxOf CX P w K mg base N qual (defScope st) f cdv A outer s H E) (fun n H' => E (cv n) none H') (defBody st) τ) : FnOk P w K mg base CX (k + 1) f fd ps (spD K cv ps.length (runD N.length τ)) := by
  obtain ⟨oc, od, kV, doc, pm, an, cdv, ct, osl, rfl, lk, hcd⟩ := Fn.ex
  refine fn_of lk hcd S (fun vs H Q E ⟨_, _, _, _, hl, _⟩ => hl) fun A outer s H vs Q E hr hsp => ?_
  obtain ⟨F, ds, fh, hd, hl, hw⟩ := hsp
  refine ⟨_, hbody cdv A outer s H E hr F H, F, ds.map (fun d => some (Sl.fz d)) ++ List.replicate (N.length - ds.length) none, ⟨Ext.refl fh, ⟨fh, fun i sl e => ?_⟩, ?_, fun i c a e => ?_, fun i j c c' a e => ?_⟩, ?_⟩
  · have hlen := hd.len
    by_cases hi : i < ds.length
    · rw [List.getElem?_append_left (by simpa using hi), List.getElem?_map] at e
      cases q : ds[i]? with
      | none => rw [q] at e; cases e
      | some d =>
        rw [q] at e
        cases e
        obtain ⟨v, e1, e2⟩ := hd.get q
        refine ⟨v, ?_, e2⟩
        unfold L2.start
        rw [List.getElem?_append_left (by simp; omega), List.getElem?_map, e1]
        rfl
    · rw [List.getElem?_append_right (by simpa using hi), List.getElem?_replicate] at e
      split at e <;> cases e
  · have hlen := hd.len
    unfold L2.start
    simp [hlen]
  · exfalso
    by_cases hi : i < ds.length
    · rw [List.getElem?_append_left (by simpa using hi), List.getElem?_map] at e
      cases q : ds[i]? with
      | none => rw [q] at e; cases e
      | some d => rw [q] at e; cases e
    · rw [List.getElem?_append_right (by simpa using hi), List.getElem?_replicate] at e
      split at e <;> cases e
  · exfalso
    by_cases hi : i < ds.length
    · rw [List.getElem?_append_left (by simpa using hi), List.getElem?_map] at e
      cases q : ds[i]? with
      | none => rw [q] at e; cases e
      | some d => rw [q] at e; cases e
    · rw [List.getElem?_append_right (by simpa using hi), List.getElem?_replicate] at e
      split at e <;> cases e
  · have hw : WP K (fun n H' => E (cv n) none H') F H (τ (ds.map (fun d => some (Sl.fz d)) ++ List.replicate (N.length - ds.length) none) >>= fun o => match o with | .nx _ => M.ret .non | .rt d => M.ret d) Q := hw
    rcases (τ (ds.map (fun d => some (Sl.fz d)) ++ List.replicate (N.length - ds.length) none)).cs with e | ⟨n, e⟩ | ⟨o, e⟩
    · rw [e] at hw; exact hw.elim
    · rw [e] at hw ⊢; exact hw
    · rw [e] at hw ⊢
      cases o with
      | nx ρ' => exact fun σ' F' H' s' => hw .non H' F' s'.ext rfl
      | rt d => exact fun v F' H' e' q => hw v H' F' e' q
end
section
variable {X : Cx} {Xw : Nat → Hp → Prop} {CX : CXT} {cv : Nat → Value} {k m : Nat} {f : Addr} {fd : FuncData} {ps : List Str} {g : List D → M D} {x : Str} {p pos : Pos} {e : Expr} {es : List Expr} {δs : DA}
theorem pd_call (F : FnOk X.prog X.w X.K X.mg X.base CX k f fd ps (spD X.K cv m g)) (hr : Room k X.A) (hg : Gl X x) (hm : X.mg x = some (.ref f)) (hk : PySem.W.keepIn X.K (.ref f) = true) (hb : Binds X.K fd ps []) (hx : Passes CX X (EX cv Xw))
    (ha : PDA X Xw (e :: es) δs) (hl : (e :: es).length = m) (hdb : (x == ("__debug__" : Str)) = false := by decide) (he : starEach (e :: es) X.env = (false, eval e X.env) :: starEach es X.env := by rfl) (hpl : (backTo pos (starEach es X.env)).any (·.1) = false := by rfl) :
    PD X Xw (.Call (.Name x p) (e :: es) [] pos) (fun ρ => δs ρ >>= fun ds => if ds.length = m then g ds else M.stuck) := PE.weak (pe_call F hr hg hm hk hb .nil hx ha hdb he hpl) fun σ H Q ⟨F, ρ, s, w⟩ => by
  refine ⟨F, ρ, s, WPL.mono (WP.bindL w) fun vs H1 ⟨F1, ds, e1, q1, w1⟩ => ?_⟩
  split at w1
  · rename_i hl1
    refine ⟨F1, ds, e1.fh, by simpa using q1, by rw [List.append_nil, ← q1.len]; exact hl1, WP.xw w1 fun n H h => ⟨n, rfl, h⟩⟩
  · exact w1.elim
/-- a global that is a constant -/
theorem pd_glob {x : Str} {d : D} {v : V} {u : Value} (hg : Gl X x) (hm : X.mg x = some u) (r : RelV v u) (hd : ∀ F, Den X.K F d v) (hdb : (x == ("__debug__" : Str)) = false := by decide) : PD X Xw (.Name x pos) (dC d) :=
  pd_const (pe_glob hg hm r hdb) hd
end
end L3


set_option Elab.async false
set_option linter.all false
set_option maxRecDepth 100000
/-! THE PURE LAYER, 9: an own exception raised, on its way through the frames -/
namespace L3
open PySem PySem.Spec L2 SeqAt
open PyProof.Rows hiding St

theorem obj_some {P : Program} {w : World} {H : Hp} {h : Heap} {a : Addr} {o : HO} (x : ObjOk P w H h a o) : ∃ ob, h.get? a = some ob := by
  cases o with
  | lst xs => obtain ⟨_, _, _, _, e⟩ := x; exact ⟨_, e⟩
  | tup xs => obtain ⟨_, _, _, ob, e, _⟩ := x; exact ⟨_, e⟩
  | dK kvs => obtain ⟨_, _, _, _, o, _, _, e, _⟩ := x; exact ⟨_, e⟩
  | dT kvs => obtain ⟨_, _, _, _, o, _, _, e, _⟩ := x; exact ⟨_, e⟩
  | set S n => obtain ⟨o, _, _, _, e, _⟩ := x; exact ⟨_, e⟩
  | ins C dx fs => obtain ⟨_, _, _, e, _⟩ := x; exact ⟨_, e⟩
  | own y => obtain ⟨_, e⟩ := x; exact ⟨_, e⟩
  | xd fs => obtain ⟨_, ⟨_, _, _, e, _⟩, _⟩ := x; exact ⟨_, e⟩
  | rng lo hi => obtain ⟨_, _, _, e⟩ := x; exact ⟨_, e⟩
  | frz ob u => obtain ⟨e, _⟩ := x; exact ⟨_, e⟩
  | tbl ps => exact ⟨_, (show h.get? a = some _ from x)⟩
  | met f y => exact ⟨_, (show h.get? a = some _ from x)⟩
  | ext φ => obtain ⟨_, ⟨_, e⟩, _⟩ := x; exact ⟨_, e⟩
/-- how an own exception lies behind a call -/
def CX1 (P : Program) (w : World) (cv : Nat → Value) : CXT := fun outer H s E e s' => ∃ (ea : Addr) (n : Nat) (a0 : Value) (B : Heap) (H' : Hp), e = .ref ea ∧ s'.os = s.os ∧ AllBare s'.gens ∧ HOk P w H' s'.heap ∧ Un (frs outer) [] H H' s.heap s'.heap ∧
  Heap.FlyingW B outer ea (cv n) a0 s'.heap ∧ (∀ b o, s'.heap.get? b = some o → (H' b ≠ none ∨ (s.heap.get? b).isSome = true) → b ∉ frs outer → B.get? b = some o) ∧ E (cv n) none H'
section
variable {P : Program} {w : World} {fs : List Addr} {H₀ H : Hp} {h₀ h h' : Heap}
theorem un_step (u : Un fs [] H₀ H h₀ h) (ka : ∀ b o, h.get? b = some o → b ∉ fs → (H b ≠ none ∨ (h₀.get? b).isSome = true) → h'.get? b = some o) (kb : ∀ b o, h.get? b = some o → b ∈ fs → ∃ sl, h'.get? b = some { o with slots := sl }) : Un fs [] H₀ H h₀ h' where
  keep := fun b o e n hb hx => ka b o (u.keep b o e n hb hx) hb (.inr (by rw [e]; rfl))
  slot := fun b o e n hb hx => by
    obtain ⟨sl, q⟩ := u.slot b o e n hb hx
    obtain ⟨sl', q'⟩ := kb b _ q hb
    exact ⟨sl', q'⟩
  free := u.free
  there := fun b o e hx => by
    obtain ⟨o', q⟩ := u.there b o e hx
    by_cases hb : b ∈ fs
    · obtain ⟨sl, q'⟩ := kb b _ q hb
      exact ⟨_, q'⟩
    · exact ⟨o', ka b o' q hb (.inr (by rw [e]; rfl))⟩
  tups := u.tups
  frzs := u.frzs
  tbls := u.tbls
theorem hok_step (x : HOk P w H h) (hf : ∀ b ∈ fs, H b = none) (ka : ∀ b o, h.get? b = some o → b ∉ fs → H b ≠ none → h'.get? b = some o) : HOk P w H h' := fun a o e => by
  refine (x a o e).stay (fun b u hb q => ka b u q (fun z => ?_) ?_) (fun _ q => q) fun _ _ q => q
  · have hz := hf b z
    rcases hb with rfl | hb
    · rw [hz] at e; cases e
    · rw [hz] at hb; cases hb
  · rcases hb with rfl | hb
    · rw [e]; exact fun z => nomatch z
    · rw [hb]; exact fun z => nomatch z
end
section
variable {P : Program} {w : World} {K : PySem.W.Frag} {mg : Str → Option Value} {base : Heap} {N : List Str} {qual : Str} {scope : Scope} {f : Addr} {cd : Value} {A : Around} {outer : List Env} {s₀ : Shared} {H₀ : Hp} {E : XK} {cv : Nat → Value}
/-- the frame is left by an exception that has come from further in -/
theorem pass1 : Passes (CX1 P w cv) (cxOf (CX1 P w cv) P w K mg base N qual scope f cd A outer s₀ H₀ E) (EX cv fun n H' => E (cv n) none H') := by
  intro pins σ H s e s' I ⟨ea, n, a0, B, H', he, hos, hg, hok, un, fly, hB, m, hm, hE⟩
  subst he
  have hloc : ((cxOf (CX1 P w cv) P w K mg base N qual scope f cd A outer s₀ H₀ E)).env.locals = s₀.heap.objs.size := rfl
  have hstk : frs ((cxOf (CX1 P w cv) P w K mg base N qual scope f cd A outer s₀ H₀ E)).stack = s₀.heap.objs.size :: frs outer := rfl
  show wpAny (model P w) (A.deeper (envOfC qual scope s₀.heap.objs.size f cd)) (leaving (envOfC qual scope s₀.heap.objs.size f cd) (.ref ea)) _ _ s'
  refine wpAny_leaves_onW (base := B) (outer := outer) (L := s₀.heap.objs.size) I.ok.frames rfl fly fun h' fly' ups => ?_
  have hfr : ∀ b ∈ frs ((cxOf (CX1 P w cv) P w K mg base N qual scope f cd A outer s₀ H₀ E)).stack, H' b = none := fun b hb => by
    obtain ⟨o, ho⟩ : ∃ o, s.heap.get? b = some o := by
      obtain ⟨_, o, ho, _⟩ := I.stack.mem hb
      exact ⟨o, ho⟩
    exact un.free b o ho (I.stkFree b hb) (by simp)
  have keepB : ∀ b o, s'.heap.get? b = some o → b ∉ frs ((cxOf (CX1 P w cv) P w K mg base N qual scope f cd A outer s₀ H₀ E)).stack → (H' b ≠ none ∨ (s.heap.get? b).isSome = true) → h'.get? b = some o := fun b o e hb hc => fly'.1 b o (hB b o e hc hb)
  have unA : Un (frs outer) [] H₀ H' s₀.heap s'.heap := by
    have u1 : Un (frs outer) [] H₀ H s₀.heap s.heap := I.base
    refine ⟨fun b o e nn hb hx => ?_, fun b o e nn hb hx => ?_, fun b o e nn hx => ?_, fun b o e hx => ?_, fun b xs q => un.tups b xs (u1.tups b xs q), fun b o u q => un.frzs b o u (u1.frzs b o u q), fun b ps q => ?_⟩
    · refine un.keep b o (u1.keep b o e nn hb hx) (u1.free b o e nn hx) (fun z => ?_) (by simp)
      rw [hstk] at z
      rcases List.mem_cons.mp z with z | z
      · exact absurd (Heap.lt_size e) (by rw [z]; exact Nat.lt_irrefl _)
      · exact hb z
    · obtain ⟨sl, q⟩ := u1.slot b o e nn hb hx
      obtain ⟨sl', q'⟩ := un.slot b _ q (u1.free b o e nn hx) (by rw [hstk]; exact List.mem_cons_of_mem _ hb) (by simp)
      exact ⟨sl', q'⟩
    · obtain ⟨o', q⟩ := u1.there b o e hx
      exact un.free b o' q (u1.free b o e nn hx) (by simp)
    · obtain ⟨o', q⟩ := u1.there b o e hx
      exact un.there b o' q (by simp)
    · obtain ⟨m1, q1⟩ := u1.tbls b ps q
      obtain ⟨m2, q2⟩ := un.tbls b _ q1
      exact ⟨m1 ++ m2, by rw [q2, Array.append_assoc]⟩
  have inS : ∀ b, (s₀.heap.get? b).isSome = true → (s.heap.get? b).isSome = true := fun b hb => by
    obtain ⟨o, ho⟩ := Option.isSome_iff_exists.mp hb
    obtain ⟨o', q⟩ := (show Un (frs outer) [] H₀ H s₀.heap s.heap from I.base).there b o ho (by simp)
    rw [q]; rfl
  have nloc : ∀ b, (s₀.heap.get? b).isSome = true → b ≠ s₀.heap.objs.size := fun b hb z => by
    obtain ⟨o, ho⟩ := Option.isSome_iff_exists.mp hb
    exact absurd (Heap.lt_size ho) (by rw [z]; exact Nat.lt_irrefl _)
  have nstk : ∀ b, b ∉ frs outer → (H' b ≠ none ∨ (s₀.heap.get? b).isSome = true) → b ∉ frs ((cxOf (CX1 P w cv) P w K mg base N qual scope f cd A outer s₀ H₀ E)).stack := fun b hb hc z => by
    rcases hc with hc | hc
    · exact hc (hfr b z)
    · rw [hstk] at z
      rcases List.mem_cons.mp z with z | z
      · exact nloc b hc z
      · exact hb z
  refine ⟨ea, n, a0, B, H', rfl, hos.trans I.os, hg, hok_step hok hfr (fun b o e hb hc => keepB b o e hb (.inl hc)), un_step unA (fun b o e hb hc => keepB b o e (nstk b hb hc) (hc.imp id (inS b))) (fun b o e hb => ?_), fly', fun b o e hc hb => ?_, ?_⟩
  · obtain ⟨_, o', ho', hd⟩ := fly.2.2.1.mem (show b ∈ frs ((cxOf (CX1 P w cv) P w K mg base N qual scope f cd A outer s₀ H₀ E)).stack by rw [hstk]; exact List.mem_cons_of_mem _ hb)
    rw [e] at ho'
    cases ho'
    exact ups b o e hd
  · have hb' := nstk b hb hc
    obtain ⟨o', ho'⟩ : ∃ o', s'.heap.get? b = some o' := by
      rcases hc with hc | hc
      · cases q : H' b with
        | none => exact absurd q hc
        | some u =>
          exact obj_some (hok b u q)
      · obtain ⟨o1, h1⟩ := Option.isSome_iff_exists.mp hc
        exact unA.there b o1 h1 (by simp)
    have := hB b o' ho' (hc.imp id (inS b)) hb'
    rw [fly'.1 b o' this] at e
    cases e
    exact this
  · rw [hm]; exact hE
/-- what is wanted where an exception has just been made -/
def XMade (X : Cx) (cv : Nat → Value) (Xw : Nat → Hp → Prop) : Prop := ∀ (n : Nat) (pins : List (Addr × Obj)) (σ : St) (H : Hp) (s : Shared) (h' : Heap) (ea : Addr) (args : List Value), Inv X pins σ H s → Heap.MadeExcOf s.heap h' ea (cv n) args → Xw n H → X.xe (.ref ea) { s with heap := h' }
/-- the frame is left by an exception that was made in it -/
theorem made1 : XMade (cxOf (CX1 P w cv) P w K mg base N qual scope f cd A outer s₀ H₀ E) cv (fun n H' => E (cv n) none H') := by
  intro n pins σ H s hh ea args I hx hE
  have hstk : frs ((cxOf (CX1 P w cv) P w K mg base N qual scope f cd A outer s₀ H₀ E)).stack = s₀.heap.objs.size :: frs outer := rfl
  have hin : ∀ env ∈ ((cxOf (CX1 P w cv) P w K mg base N qual scope f cd A outer s₀ H₀ E)).stack, ∀ b, env.frame = some b → b ∈ frs ((cxOf (CX1 P w cv) P w K mg base N qual scope f cd A outer s₀ H₀ E)).stack := fun env he b hb => List.mem_filterMap.mpr ⟨env, he, hb⟩
  have stays : (PySem.W.hideAll s.heap (frs ((cxOf (CX1 P w cv) P w K mg base N qual scope f cd A outer s₀ H₀ E)).stack)).StaysIn s.heap := fun b o q => PySem.W.of_hideAll _ q
  show wpAny (model P w) (A.deeper (envOfC qual scope s₀.heap.objs.size f cd)) (leaving (envOfC qual scope s₀.heap.objs.size f cd) (.ref ea)) _ _ _
  refine wpAny_leaves_madeW (base := PySem.W.hideAll s.heap (frs ((cxOf (CX1 P w cv) P w K mg base N qual scope f cd A outer s₀ H₀ E)).stack)) (h := s.heap) (outer := outer) (L := s₀.heap.objs.size) I.ok.frames rfl stays (PySem.W.funFrames_hide I.stack hin) hx fun h' t fly _ _ ups => ?_
  have hB : ∀ b o, s.heap.get? b = some o → b ∉ frs ((cxOf (CX1 P w cv) P w K mg base N qual scope f cd A outer s₀ H₀ E)).stack → (PySem.W.hideAll s.heap (frs ((cxOf (CX1 P w cv) P w K mg base N qual scope f cd A outer s₀ H₀ E)).stack)).get? b = some o := fun b o e hb => PySem.W.hideAll_get _ e hb
  have keepB : ∀ b o, s.heap.get? b = some o → b ∉ frs ((cxOf (CX1 P w cv) P w K mg base N qual scope f cd A outer s₀ H₀ E)).stack → h'.get? b = some o := fun b o e hb => fly.1 b o (hB b o e hb)
  have u1 : Un (frs outer) [] H₀ H s₀.heap s.heap := I.base
  have nloc : ∀ b, (s₀.heap.get? b).isSome = true → b ≠ s₀.heap.objs.size := fun b hb z => by
    obtain ⟨o, ho⟩ := Option.isSome_iff_exists.mp hb
    exact absurd (Heap.lt_size ho) (by rw [z]; exact Nat.lt_irrefl _)
  have nstk : ∀ b, b ∉ frs outer → (H b ≠ none ∨ (s₀.heap.get? b).isSome = true) → b ∉ frs ((cxOf (CX1 P w cv) P w K mg base N qual scope f cd A outer s₀ H₀ E)).stack := fun b hb hc z => by
    rcases hc with hc | hc
    · exact hc (I.stkFree b z)
    · rw [hstk] at z
      rcases List.mem_cons.mp z with z | z
      · exact nloc b hc z
      · exact hb z
  refine ⟨ea, n, .ref t, PySem.W.hideAll s.heap (frs ((cxOf (CX1 P w cv) P w K mg base N qual scope f cd A outer s₀ H₀ E)).stack), H, rfl, I.os, I.bare, hok_step I.hok I.stkFree (fun b o e hb hc => keepB b o e hb), un_step u1 (fun b o e hb hc => keepB b o e (nstk b hb hc)) (fun b o e hb => ?_), fly, fun b o e hc hb => ?_, hE⟩
  · obtain ⟨_, o', ho', hd⟩ := I.stack.mem (show b ∈ frs ((cxOf (CX1 P w cv) P w K mg base N qual scope f cd A outer s₀ H₀ E)).stack by rw [hstk]; exact List.mem_cons_of_mem _ hb)
    rw [e] at ho'
    cases ho'
    exact ups b o (hx.keeps b o e) hd
  · obtain ⟨o', ho'⟩ : ∃ o', s.heap.get? b = some o' := by
      rcases hc with hc | hc
      · cases q : H b with
        | none => exact absurd q hc
        | some u => exact obj_some (I.hok b u q)
      · obtain ⟨o1, h1⟩ := Option.isSome_iff_exists.mp hc
        exact u1.there b o1 h1 (by simp)
    have hb' := nstk b hb hc
    rw [keepB b o' ho' hb'] at e
    cases e
    exact hB b o ho' hb'
end
section
variable {X : Cx} {Xw : Nat → Hp → Prop} {cv : Nat → Value} {n : Nat} {C : Addr} {x : Str} {np cpos pos : Pos} {e : Expr} {es : List Expr} {δs : DA} {bm : List Value} {B newId initId : String}
/-- raise C(..) of an own class -/
theorem psd_raise (O : OwnCls x C bm newId X.mg X.base) (FB : ExcBaseFacts B newId initId bm) (hg : Gl X x) (hc : X.calm = true) (hcv : cv n = .ref C) (hx : XMade X cv Xw) (ha : PDA X Xw (e :: es) δs) (hdb : (x == ("__debug__" : Str)) = false := by decide)
    (he : starEach (e :: es) X.env = (false, eval e X.env) :: starEach es X.env := by rfl) (hpl : (backTo cpos (starEach es X.env)).any (·.1) = false := by rfl) :
    PSD X Xw (.Raise (some (.Call (.Name x np) (e :: es) [] cpos)) none pos) (fun ρ => δs ρ >>= fun ds => if ds.length ≤ lim then M.raise n else M.stuck) := fun F₀ H₀ pins s σ H D I ⟨F, ρ, S, w⟩ => by
  obtain ⟨tl, Nn, nm, q, bs, hdct, sn, sub, ab, col, dd, k0, k1, k2, k3, k5, mN, hC, hN, hni, T⟩ := O.obj
  refine wpAny_Raise_call_subT (C := C) (nm := nm) (q := q) (N := Nn) (bs := bs) (bm := tl) (hdct := hdct) (sn := sn) (sub := sub) (ab := ab) (col := col) (dd := dd) (k0 := k0) (k1 := k1) (k2 := k2) (k3 := k3) (k5 := k5)
    FB (mN := mN) (T.hasType FB.hasBase) (I.ok.hd hc) (by rw [he]; show (false || (backTo cpos (starEach es X.env)).any (·.1)) = false; rw [hpl]; rfl) hni (ld_glob I hg O.bound ⟨rfl, ?_⟩ hdb)
  have w : WPS X.K Xw F₀ H₀ (δs ρ >>= fun ds => if ds.length ≤ lim then M.raise n else M.stuck) D := w
  have hA := ha cpos pins s σ H (fun vs H1 => vs.length ≤ lim ∧ Xw n H1) I ⟨F, ρ, S.st, by
    rcases (δs ρ).cs with q | ⟨m, q⟩ | ⟨ds, q⟩
    · rw [q] at w; exact w.elim
    · rw [q] at w ⊢; exact fun F' H' e' => w F' H' (S.ext.trans e')
    · rw [q] at w ⊢
      intro vs H' F' e' hd
      have w : WPS X.K Xw F₀ H₀ (if ds.length ≤ lim then M.raise n else M.stuck) D := w
      split at w
      · rename_i hl
        exact ⟨by rw [← hd.len]; exact hl, w F' H' (S.ext.trans e')⟩
      · exact w.elim⟩
  rw [he] at hA ⊢
  refine Calls.evalArgs_plain (thn hA fun us s₂ ⟨vs, H1, I1, r, hl, hX⟩ => ⟨rfl, by rw [← r.length]; have := lim_lt; omega, I1.bk _ _ hC, hN.keeps I1.bk, T.keeps I1.bk, fun h' ea hm => hx n pins σ H1 s₂ h' ea us I1 (by rw [hcv]; exact hm) hX⟩)
end
end L3


set_option Elab.async false
set_option linter.all false
set_option maxRecDepth 100000
/-! THE PURE LAYER, 10: more built-ins -/
namespace L3
open PySem PySem.Spec L2 SeqAt
open PyProof.Rows hiding St

/-! ### isinstance of a built-in type -/
def kindD : D → Option String
  | .non => some "NoneType"
  | .bl _ => some "bool"
  | .int _ => some "int"
  | .str _ => some "str"
  | .tup _ => some "tuple"
  | .lst _ => some "list"
  | _ => none
def isiK (k T : String) : Option Bool := if T = "str" ∨ T = "int" ∨ T = "bool" ∨ T = "tuple" ∨ T = "list" then some (decide (k = T) || (decide (k = "bool") && decide (T = "int"))) else none
def isiM : List D → M D
  | [d, .raw (.ty T)] => match kindD d with
    | some k => match isiK k T with
      | some b => M.ret (.bl b)
      | none => M.stuck
    | none => M.stuck
  | _ => M.stuck
theorem kit_of {K : PySem.W.Frag} {k T : String} {b : Bool} (hk : k = "NoneType" ∨ k = "bool" ∨ k = "int" ∨ k = "str" ∨ k = "tuple" ∨ k = "list") (h : isiK k T = some b) : PySem.W.kitOne K (.type k) (.type T) = some b := by
  unfold isiK at h
  split at h
  · rename_i hT
    cases h
    rcases hk with rfl | rfl | rfl | rfl | rfl | rfl <;> rcases hT with rfl | rfl | rfl | rfl | rfl <;> with_unfolding_all rfl
  · cases h
section
variable {X : Cx} {Xw : Nat → Hp → Prop} {a b e e2 : Expr} {es : List Expr} {δa δb : DE} {δs : DA} {pos p : Pos}
def rIsi (K : PySem.W.Frag) : List V → Hp → VK → Prop := fun xs H Q => ∃ x T t b, xs = [x, .ty T] ∧ TyOf K H x t ∧ PySem.W.kitOne K t (.type T) = some b ∧ Q (.bl b) H
theorem call_isi : CallR X (.builtin "isinstance") (rIsi X.K) := by
  intro pins s σ H xs us Q I r h
  obtain ⟨x, T, t, b, rfl, ty, e, q⟩ := h
  obtain ⟨u, w', rfl, r1, r2⟩ := vals2 r
  cases (show w' = _ from r2)
  exact isinst_ok I r1 ty e fun tk => ⟨.bl b, H, I.tok tk, rfl, q⟩
theorem tyOf_den {K : PySem.W.Frag} {F H : Hp} {d : D} {v : V} {k : String} (s : Same F H) (h : Den K F d v) (hk : kindD d = some k) : TyOf K H v (.type k) ∧ (k = "NoneType" ∨ k = "bool" ∨ k = "int" ∨ k = "str" ∨ k = "tuple" ∨ k = "list") := by
  cases d with
  | non => cases hk; cases (show _ = _ from h); exact ⟨.non, .inl rfl⟩
  | bl x => cases hk; cases (show _ = _ from h); exact ⟨.bl x, .inr (.inl rfl)⟩
  | int x => cases hk; cases (show _ = _ from h); exact ⟨.int x, .inr (.inr (.inl rfl))⟩
  | str x => cases hk; cases (show _ = _ from h.1); exact ⟨.str x, .inr (.inr (.inr (.inl rfl)))⟩
  | tup x => cases hk; obtain ⟨a, vs, rfl, h2, _⟩ := h; exact ⟨.tup (s _ _ h2), .inr (.inr (.inr (.inr (.inl rfl))))⟩
  | lst x => cases hk; obtain ⟨a, vs, rfl, h2, _⟩ := h; exact ⟨.lst (s _ _ h2), .inr (.inr (.inr (.inr (.inr rfl))))⟩
  | _ => cases hk
theorem isi_callD {K : PySem.W.Frag} : CallD K (rIsi K) isiM := fun Xw F H vs ds Q s h w => by
  unfold isiM at w
  split at w
  · rename_i d T
    obtain ⟨v, v', rfl, h1, h2⟩ := h.two
    cases (show _ = _ from h2)
    split at w
    · rename_i k hk
      split at w
      · rename_i b hb
        obtain ⟨ty, hk'⟩ := tyOf_den s h1 hk
        exact ⟨v, T, .type k, b, rfl, ty, kit_of hk' hb, WP.now w s rfl⟩
      · exact w.elim
    · exact w.elim
  · exact w.elim
theorem pd_isi (hg : Gl X "isinstance") (hm : X.mg "isinstance" = none) (hb : bootBuiltins "isinstance" = some (.builtin "isinstance")) (ha : PDA X Xw [e, e2] δs) (he : starEach [e, e2] X.env = (false, eval e X.env) :: starEach [e2] X.env := by rfl)
    (hpl : (backTo pos (starEach [e2] X.env)).any (·.1) = false := by rfl) : PD X Xw (.Call (.Name "isinstance" p) [e, e2] [] pos) (dA isiM δs) :=
  pd_callB call_isi isi_callD hg hm hb ha (by decide) (by decide) he hpl
/-- a built-in type by its name -/
theorem pd_ty {x : Str} {T : String} (hg : Gl X x) (hm : X.mg x = none) (hv : bootBuiltins x = some (.type T)) (hn : x ≠ "__name__" := by decide) (hd : (x == ("__debug__" : Str)) = false := by decide) : PD X Xw (.Name x pos) (dC (.raw (.ty T))) :=
  pd_const (v := .ty T) (pe_bltn hg hm hv (show RelV (.ty T) (.type T) from rfl) hn hd) fun _ => rfl

/-! ### all(list of bools) -/
def bools : List D → Option (List Bool)
  | [] => some []
  | .bl b :: r => (bools r).map (b :: ·)
  | _ => none
def allM : List D → M D
  | [.lst ds] => match bools ds with
    | some bs => M.ret (.bl (bs.all id))
    | none => M.stuck
  | _ => M.stuck
theorem bools_den {K : PySem.W.Frag} {F : Hp} : ∀ {ds : List D} {vs : List V} {bs : List Bool}, bools ds = some bs → DenL K F ds vs → vs = bs.map V.bl
  | [], _, _, e, h => by cases e; exact h
  | .bl b :: r, _, _, e, ⟨v, r', h1, h2, h3⟩ => by
    unfold bools at e
    cases q : bools r with
    | none => rw [q] at e; cases e
    | some bs => rw [q] at e; cases e; subst h1; rw [bools_den q h3, show v = .bl b from h2]; rfl
  | .non :: _, _, _, e, _ => by cases e
  | .int _ :: _, _, _, e, _ => by cases e
  | .str _ :: _, _, _, e, _ => by cases e
  | .raw _ :: _, _, _, e, _ => by cases e
  | .exc _ :: _, _, _, e, _ => by cases e
  | .scr _ :: _, _, _, e, _ => by cases e
  | .tup _ :: _, _, _, e, _ => by cases e
  | .lst _ :: _, _, _, e, _ => by cases e
theorem vals_bl : ∀ {bs : List Bool} {its : List Value}, Vals (bs.map V.bl) its → its = bs.map Value.bool
  | [], _, r => by cases r; rfl
  | b :: bs, _, r => by
    cases r with
    | cons r1 r2 => cases (show _ = _ from r1); rw [vals_bl r2]; rfl
def rAll : List V → Hp → VK → Prop := fun xs H Q => ∃ (a : Addr) (bs : List Bool), xs = [.ref a] ∧ H a = some (.lst (bs.map V.bl)) ∧ Q (.bl (bs.all id)) H
theorem all_range {bs : List Bool} : (List.range bs.length).all (fun i => bs.getD i false) = bs.all id := by
  induction bs with
  | nil => rfl
  | cons b bs ih =>
    rw [List.length_cons, List.range_succ_eq_map, List.all_cons, List.all_map, List.all_cons]
    congr 1
theorem call_all' (hc : X.calm = true) : CallR X (.builtin "all") rAll := by
  intro pins s σ H xs us Q I r h
  obtain ⟨a, bs, rfl, hH, q⟩ := h
  obtain ⟨u, rfl, r1⟩ := vals1 r
  cases (show u = _ from r1)
  obtain ⟨its, r2, pl, hz⟩ := I.list (SqL.of (K := X.K) hH)
  obtain rfl := vals_bl r2
  have hne : a ≠ s.heap.objs.size := Nat.ne_of_lt (I.hok.lt hH)
  refine call_all_walk (wpAny_pyIter_list pl.isList ?_)
  refine ⟨s.heap.objs.size, _, _, _, _, _, fun i => bs.getD i false, rfl, Walks.list (A := X.A.in1) (show X.A.in1.handled = none from I.ok.hd hc) s.heap.objs.size a hne (bs.map Value.bool).toArray, ⟨⟨_, Heap.get?_push_size _ rfl, rfl, rfl⟩, Heap.IsList.at pl.isList fun o e => Heap.get?_push_of_some _ e⟩, ?_, fun h' tk k => ?_⟩
  · intro i v s' Q' E' hv hq
    have hv : (bs.map Value.bool).toArray[i]? = some v := hv
    rw [List.getElem?_toArray, List.getElem?_map] at hv
    cases q' : bs[i]? with
    | none => rw [q'] at hv; cases hv
    | some b =>
      rw [q'] at hv
      cases hv
      have : bs.getD i false = b := by rw [List.getD_eq_getElem?_getD, q']; rfl
      have hq : Q' (bs.getD i false) s' := hq
      rw [this] at hq
      exact wpAny_truthy_bool hq
  · have e : (List.range (bs.map Value.bool).toArray.size).all (fun i => bs.getD i false) = bs.all id := by
      rw [List.size_toArray, List.length_map]; exact all_range
    rw [e]
    refine ⟨.bl (bs.all id), H, I.kept (h' := h') (t' := tk) fun b o e' => k b o (fun z => ?_) (Heap.get?_push_of_some _ e'), rfl, q⟩
    have z : b = s.heap.objs.size := by simpa using z
    exact absurd (Heap.lt_size e') (by rw [z]; exact Nat.lt_irrefl _)
theorem pd_all (hc : X.calm = true) (hg : Gl X "all") (hm : X.mg "all" = none) (hb : bootBuiltins "all" = some (.builtin "all")) (ha : PDA X Xw [e] δs) (he : starEach [e] X.env = [(false, eval e X.env)] := by rfl) : PD X Xw (.Call (.Name "all" p) [e] [] pos) (dA allM δs) :=
  pd_callB (call_all' hc) (fun Xw F H vs ds Q s h w => by
    unfold allM at w
    split at w
    · rename_i ds
      obtain ⟨v, rfl, h1⟩ := h.one
      obtain ⟨a, ws, rfl, h2, h3, _⟩ := h1
      split at w
      · rename_i bs hb
        exact ⟨a, bs, rfl, by rw [← bools_den hb h3]; exact s _ _ h2, WP.now w s rfl⟩
      · exact w.elim
    · exact w.elim) hg hm hb ha (by decide) (by decide) he rfl
end
end L3


set_option Elab.async false
set_option linter.all false
set_option maxRecDepth 100000
/-! THE PURE LAYER, 11: lists of one's own that grow; tuples put together; join; in -/
namespace L3
open PySem PySem.Spec L2 SeqAt
open PyProof.Rows hiding St

section
variable {X : Cx} {Xw : Nat → Hp → Prop} {a b e e2 : Expr} {es : List Expr} {δ δa δb : DE} {δs : DA} {pos p apos cpos : Pos}
/-! ### xs.append(e), xs.extend(e) -/
/-! ### t + u -/
theorem op_catT0 : OpR X (binaryOp .Add) (fun x y H Q => ∃ a b ys, x = .ref a ∧ y = .ref b ∧ SqT X.K H a [] ∧ SqT X.K H b ys ∧ Q (.ref b) H) := by
  intro pins s σ H x y v u Q I rx ry h
  obtain ⟨a, b, ys, rfl, rfl, ha, hb, q⟩ := h
  cases rx
  cases ry
  obtain ⟨its, r1, p1, _⟩ := I.tuple ha
  obtain ⟨its2, r2, p2, _⟩ := I.tuple hb
  cases r1
  obtain ⟨⟨cls, dd, data, sl⟩, ho, hc, n, hd⟩ := id p1
  obtain ⟨⟨cls2, dd2, data2, sl2⟩, ho2, hc2, n2, hd2⟩ := id p2
  simp only at hc hd hc2 hd2
  subst hc hd hc2 hd2
  exact concat_meets ⟨_, ho, rfl⟩ ⟨_, ho2, rfl⟩ noFill_tuple_add seq_tuple_add PySem.F.slot_tuple_add PySem.F.entry_tuple_add (PySem.F.args_tuple_add_2 _ _)
    (tuple_addW0 a b _ _ n n2 dd dd2 sl sl2 (by simp)) ⟨ho, ho2, ⟨.ref b, H, I, rfl, q⟩⟩
def gCatT : D → D → M D
  | .tup x, .tup y => if x.length + y.length ≤ lim then M.ret (.tup (x ++ y)) else M.stuck
  | _, _ => M.stuck
theorem pd_catT (ha : PD X Xw a δa) (hb : PD X Xw b δb) : PD X Xw (.BinOp a .Add b pos) (d2 gCatT δa δb) := pd_op (op_catT0.or op_catT) (fun Xw F H x y dx dy Q s hx hy w => by
  unfold gCatT at w
  split at w
  · rename_i i j
    obtain ⟨a, vs, h1, h2, h3, h4⟩ := hx
    obtain ⟨a', vs', k1, k2, k3, k4⟩ := hy
    split at w
    · rename_i hl
      have e1 := h3.len
      have e2 := k3.len
      have := lim_lt
      by_cases hv : vs = []
      · subst hv
        have : i = [] := by cases i with | nil => rfl | cons _ _ => simp at e1
        subst this
        exact .inl ⟨a, a', vs', h1, k1, SqT.of (s _ _ h2), SqT.of (s _ _ k2), WP.now w s ⟨a', vs', k1 ▸ rfl, k2, k3, k4⟩⟩
      · refine .inr ⟨a, a', vs, vs', h1, k1, SqT.of (s _ _ h2), SqT.of (s _ _ k2), hv, by omega, fun z => ?_, fun z p hp => ?_⟩
        · subst z
          have : j = [] := by cases j with | nil => rfl | cons _ _ => simp at e2
          subst this
          rw [List.append_nil] at w
          exact WP.now w s ⟨a, vs, rfl, h2, h3, h4⟩
        · exact WP.fin w (Ext.lay s hp) ⟨p, _, rfl, upd_same, DenL.mono (Ext.lay s hp).ff (h3.append k3), by rw [List.length_append]; exact hl⟩
    · exact w.elim
  · exact w.elim) ha hb
end
end L3


set_option Elab.async false
set_option linter.all false
set_option maxRecDepth 100000
/-! THE PURE LAYER, 12: join, tuple(), list(), in, count, index, max, min -/
namespace L3
open PySem PySem.Spec L2 SeqAt
open PyProof.Rows hiding St

section
variable {X : Cx} {Xw : Nat → Hp → Prop} {a b e e2 o : Expr} {es : List Expr} {δ δa δb δo : DE} {δs : DA} {pos p apos cpos : Pos}
/-! ### a built-in's method -/
/-- a method of a built-in whose receiver's kind is known beforehand: kd -/
def dM (kd : D → Bool) (g : D → List D → M D) (o : DE) (s : DA) : DE := fun ρ => o ρ >>= fun d => if kd d then s ρ >>= fun ds => g d ds else M.stuck
theorem pd_bm {T : String} {name : Str} {id : String} {r : V → List V → Hp → VK → Prop} {kd : D → Bool} {g : D → List D → M D} (pa : PlainAttrs T) (slot : Slot T name id) (hty : typeOf (.builtin id) = pure (.type "method_descriptor")) (hm : MtR X id r)
    (hk : ∀ (F H : Hp) (x : V) (d : D), kd d = true → Same F H → Den X.K F d x → tyV X.K T x H)
    (hd : ∀ (Xw : Nat → Hp → Prop) (F H : Hp) (x : V) (vs : List V) (d : D) (ds : List D) (Q : VK), Same F H → Den X.K F d x → DenL X.K F ds vs → WP X.K Xw F H (g d ds) Q → r x vs H Q)
    (ho : PD X Xw o δo) (ha : PDA X Xw (e :: es) δs)
    (hbase : attributeBase o name X.env (eval o X.env) = eval o X.env := by rfl)
    (hfew : ((backTo cpos (starEach (e :: es) X.env)).all (fun x => !x.1) && (backToKw cpos (keywordEach [] X.env)).all (fun x => x.1.isSome)
      && decide ((e :: es).length + ([] : List Keyword).length + (if ([] : List Keyword).isEmpty then 0 else 1) < 30)) = true := by rfl)
    (hline : (apos.endLine == cpos.line) = true := by rfl) (hs : starEach (e :: es) X.env = (false, eval e X.env) :: starEach es X.env := by rfl) (hplain : (backTo cpos (starEach es X.env)).any (·.1) = false := by rfl) :
    PD X Xw (.Call (.Attribute o name apos) (e :: es) [] cpos) (dM kd g δo δs) := PE.weak (pe_bm pa slot hty hm ho ha hbase hfew hline hs hplain) fun σ H Q ⟨F, ρ, s, w⟩ => by
  refine ⟨F, ρ, s, WP.mono (WP.bind w) fun v H1 ⟨F1, d, e1, q1, w1⟩ => ?_⟩
  split at w1
  · rename_i hkd
    refine ⟨hk F1 H1 v d hkd e1.fh q1, F1, ρ, s.ext e1, WPL.mono (WP.bindL w1) fun vs H2 ⟨F2, ds, e2, q2, w2⟩ => ?_⟩
    exact hd Xw F2 H2 v vs d ds Q e2.fh (Den.mono e2.ff q1) q2 w2
  · exact w1.elim
def isS : D → Bool
  | .str _ => true
  | _ => false
def isLst : D → Bool
  | .lst _ => true
  | _ => false
theorem isS_ty {K : PySem.W.Frag} (F H : Hp) (x : V) (d : D) (h : isS d = true) (s : Same F H) (q : Den K F d x) : tyV K "str" x H := by
  cases d with
  | str z => cases (show _ = _ from q.1); exact rfl
  | _ => cases h
theorem isLst_ty {K : PySem.W.Frag} (F H : Hp) (x : V) (d : D) (h : isLst d = true) (s : Same F H) (q : Den K F d x) : tyV K "list" x H := by
  cases d with
  | lst z => obtain ⟨a, vs, rfl, h2, _⟩ := q; exact .inl ⟨rfl, vs, SqL.of (s _ _ h2)⟩
  | _ => cases h
/-! ### join -/
def txts : List D → Option (List Str)
  | [] => some []
  | .str x :: r => (txts r).map (x :: ·)
  | _ => none
theorem txts_den {K : PySem.W.Frag} {F : Hp} : ∀ {ds : List D} {vs : List V} {xs : List Str}, txts ds = some xs → DenL K F ds vs → vs = xs.map V.str
  | [], _, _, e, h => by cases e; exact h
  | .str b :: r, _, _, e, ⟨v, r', h1, h2, h3⟩ => by
    unfold txts at e
    cases q : txts r with
    | none => rw [q] at e; cases e
    | some bs => rw [q] at e; cases e; subst h1; rw [txts_den q h3, show v = .str b from h2.1]; rfl
  | .non :: _, _, _, e, _ => by cases e
  | .int _ :: _, _, _, e, _ => by cases e
  | .bl _ :: _, _, _, e, _ => by cases e
  | .raw _ :: _, _, _, e, _ => by cases e
  | .exc _ :: _, _, _, e, _ => by cases e
  | .scr _ :: _, _, _, e, _ => by cases e
  | .tup _ :: _, _, _, e, _ => by cases e
  | .lst _ :: _, _, _, e, _ => by cases e
theorem vals_str : ∀ {xs : List Str} {its : List Value}, Vals (xs.map V.str) its → StrsAre its xs
  | [], _, r => by cases r; exact .nil
  | b :: bs, _, r => by
    cases r with
    | cons r1 r2 => obtain ⟨t, rfl⟩ := r1; exact .cons b t (vals_str r2)
/-- ''.join(..) -/
def catS : List Str → Str
  | [] => ⟨#[]⟩
  | x :: r => x ++ catS r
def joinM : D → List D → M D
  | .str sep, [.lst ds] => match txts ds with
    | some xs => if sep.length = 0 ∧ (xs.map (·.length)).sum ≤ lim then M.ret (.str (catS xs)) else M.stuck
    | none => M.stuck
  | .str sep, [.tup ds] => match txts ds with
    | some xs => if sep.length = 0 ∧ (xs.map (·.length)).sum ≤ lim then M.ret (.str (catS xs)) else M.stuck
    | none => M.stuck
  | _, _ => M.stuck
theorem catS_len : ∀ xs : List Str, (catS xs).length = (xs.map (·.length)).sum
  | [] => rfl
  | x :: r => by
    show (x ++ catS r).length = _
    rw [str_len_append, catS_len r, List.map_cons, List.sum_cons]
theorem str_nil {x : Str} (h : x.length = 0) : x = ⟨#[]⟩ := by
  obtain ⟨⟨l⟩⟩ := x
  have : l.length = 0 := h
  cases l with
  | nil => rfl
  | cons _ _ => simp at this
theorem str_app_nil (x : Str) : x ++ (⟨#[]⟩ : Str) = x := by
  obtain ⟨c⟩ := x
  show (⟨c ++ #[]⟩ : Str) = ⟨c⟩
  simp
theorem join_nil_eq (sep : Str) (h : sep.length = 0) : ∀ xs : List Str, Txt.join sep xs = catS xs := by
  have e := str_nil h
  subst e
  intro xs
  show Builtin.Str.glued _ xs = _
  rw [StrLaws.glued_eq_join]
  induction xs with
  | nil => rfl
  | cons x r ih =>
    cases r with
    | nil => show x = x ++ (⟨#[]⟩ : Str); rw [str_app_nil]
    | cons y r => show x ++ (⟨#[]⟩ : Str) ++ Str.join _ (y :: r) = x ++ catS (y :: r); rw [str_app_nil, ih]
def rJoin (K : PySem.W.Frag) : V → List V → Hp → VK → Prop := fun x vs H Q => ∃ (sep : Str) (a : Addr) (xs : List Str), x = .str sep ∧ vs = [.ref a] ∧ (H a = some (.lst (xs.map V.str)) ∨ H a = some (.tup (xs.map V.str))) ∧ sep.length = 0 ∧ (xs.map (·.length)).sum ≤ lim ∧ Q (.str (catS xs)) H
theorem mt_join : MtR X "str.join" (rJoin X.K) := by
  intro pins s σ H x vs v us Q I rx rv h
  obtain ⟨sep, a, xs, rfl, rfl, hH, hs, hl, q⟩ := h
  obtain ⟨t, rfl⟩ := rx
  obtain ⟨u, rfl, r1⟩ := rv.one
  cases (show u = _ from r1)
  have hok : (xs.map (·.length)).sum + xs.length * sep.length ≤ 16777216 := by
    rw [hs, Nat.mul_zero]
    unfold lim at hl
    omega
  rcases hH with hH | hH
  · obtain ⟨its, r2, pl, hz⟩ := I.list (SqL.of (K := X.K) hH)
    refine join_list pl.isList (by simpa using vals_str r2) hok fun t' k => ⟨.str (catS xs), H, I.tok k, ⟨t', by rw [join_nil_eq sep hs]⟩, q⟩
  · obtain ⟨its, r2, pl, hz⟩ := I.tuple (SqT.of (K := X.K) hH)
    refine join_tuple pl (by simpa using vals_str r2) hok fun t' k => ⟨.str (catS xs), H, I.tok k, ⟨t', by rw [join_nil_eq sep hs]⟩, q⟩
theorem pd_join (ho : PD X Xw o δo) (ha : PDA X Xw [e] δs) (hbase : attributeBase o "join" X.env (eval o X.env) = eval o X.env := by rfl)
    (hfew : ((backTo cpos (starEach [e] X.env)).all (fun x => !x.1) && (backToKw cpos (keywordEach [] X.env)).all (fun x => x.1.isSome) && decide ([e].length + ([] : List Keyword).length + (if ([] : List Keyword).isEmpty then 0 else 1) < 30)) = true := by rfl)
    (hline : (apos.endLine == cpos.line) = true := by rfl) (hst : starEach [e] X.env = [(false, eval e X.env)] := by rfl) : PD X Xw (.Call (.Attribute o "join" apos) [e] [] cpos) (dM isS joinM δo δs) :=
  pd_bm PySem.F.plainAttrs_str PySem.F.slot_str_join PySem.F.type_str_join mt_join isS_ty (fun Xw F H x vs d ds Q s hx hv w => by
    unfold joinM at w
    split at w
    · rename_i sep ds
      obtain ⟨v, rfl, h1⟩ := hv.one
      obtain ⟨a, ws, rfl, h2, h3, _⟩ := h1
      split at w
      · rename_i xs hxs
        split at w
        · rename_i hc
          exact ⟨sep, a, xs, hx.1, rfl, .inl (by rw [← txts_den hxs h3]; exact s _ _ h2), hc.1, hc.2, WP.now w s ⟨rfl, by rw [catS_len]; exact hc.2⟩⟩
        · exact w.elim
      · exact w.elim
    · rename_i sep ds
      obtain ⟨v, rfl, h1⟩ := hv.one
      obtain ⟨a, ws, rfl, h2, h3, _⟩ := h1
      split at w
      · rename_i xs hxs
        split at w
        · rename_i hc
          exact ⟨sep, a, xs, hx.1, rfl, .inr (by rw [← txts_den hxs h3]; exact s _ _ h2), hc.1, hc.2, WP.now w s ⟨rfl, by rw [catS_len]; exact hc.2⟩⟩
        · exact w.elim
      · exact w.elim
    · exact w.elim) ho ha hbase hfew hline hst rfl
/-! ### tuple(xs), list(t) -/
def tupM1 : List D → M D
  | [.lst ds] => M.ret (.tup ds)
  | [.tup ds] => M.ret (.tup ds)
  | _ => M.stuck
def lstM1 : List D → M D
  | [.lst ds] => M.ret (.lst ds)
  | [.tup ds] => M.ret (.lst ds)
  | _ => M.stuck
theorem pd_tuple (hg : Gl X "tuple") (hm : X.mg "tuple" = none) (hb : bootBuiltins "tuple" = some (.type "tuple")) (ha : PDA X Xw [e] δs) (he : starEach [e] X.env = [(false, eval e X.env)] := by rfl) : PD X Xw (.Call (.Name "tuple" p) [e] [] pos) (dA tupM1 δs) :=
  pd_callTy call_tuple_of (fun Xw F H vs ds Q s h w => by
    unfold tupM1 at w
    split at w
    · rename_i ds
      obtain ⟨v, rfl, h1⟩ := h.one
      obtain ⟨a, ws, rfl, h2, h3, h4⟩ := h1
      exact ⟨a, ws, rfl, .inl ⟨SqL.of (s _ _ h2), fun l hl => WP.fin w (Ext.lay s hl) ⟨l, ws, rfl, upd_same, DenL.mono (Ext.lay s hl).ff h3, h4⟩⟩⟩
    · rename_i ds
      obtain ⟨v, rfl, h1⟩ := h.one
      obtain ⟨a, ws, rfl, h2, h3, h4⟩ := h1
      exact ⟨a, ws, rfl, .inr ⟨SqT.of (s _ _ h2), WP.now w s ⟨a, ws, rfl, h2, h3, h4⟩⟩⟩
    · exact w.elim) hg hm hb ha (by decide) (by decide) he rfl
theorem pd_list (hg : Gl X "list") (hm : X.mg "list" = none) (hb : bootBuiltins "list" = some (.type "list")) (ha : PDA X Xw [e] δs) (he : starEach [e] X.env = [(false, eval e X.env)] := by rfl) : PD X Xw (.Call (.Name "list" p) [e] [] pos) (dA lstM1 δs) :=
  pd_callTy call_list_of (fun Xw F H vs ds Q s h w => by
    unfold lstM1 at w
    split at w
    · rename_i ds
      obtain ⟨v, rfl, h1⟩ := h.one
      obtain ⟨a, ws, rfl, h2, h3, h4⟩ := h1
      exact ⟨a, ws, rfl, .inl (SqL.of (s _ _ h2)), fun l hl => WP.fin w (Ext.lay s hl) ⟨l, ws, rfl, upd_same, DenL.mono (Ext.lay s hl).ff h3, h4⟩⟩
    · rename_i ds
      obtain ⟨v, rfl, h1⟩ := h.one
      obtain ⟨a, ws, rfl, h2, h3, h4⟩ := h1
      exact ⟨a, ws, rfl, .inr (SqT.of (s _ _ h2)), fun l hl => WP.fin w (Ext.lay s hl) ⟨l, ws, rfl, upd_same, DenL.mono (Ext.lay s hl).ff h3, h4⟩⟩
    · exact w.elim) hg hm hb ha (by decide) (by decide) he rfl
/-! ### max, min -/
/-! ### in, not in: a list or a tuple; a text -/
/-- a text in a text -/
def gInS (neg : Bool) : D → D → M D
  | .str x, .str y => M.ret (.bl (if neg then !(!(Builtin.Str.occurrences y x 0 y.length 1).isEmpty) else !(Builtin.Str.occurrences y x 0 y.length 1).isEmpty))
  | _, _ => M.stuck
theorem pd_inS (ha : PD X Xw a δa) (hb : PD X Xw b δb) (hm : behindInMarks .In b = false := by rfl) : PD X Xw (.Compare a [.In] [b] pos) (d2 (gInS false) δa δb) := pd_cmp op_in_str (fun Xw F H x y dx dy Q s hx hy w => by
  unfold gInS at w
  split at w
  · exact ⟨_, _, hx.1, hy.1, WP.now w s rfl⟩
  · exact w.elim) ha hb hm
theorem pt_inS (ha : PD X Xw a δa) (hb : PD X Xw b δb) (hm : behindInMarks .In b = false := by rfl) : PDT X Xw (.Compare a [.In] [b] pos) (tB' (d2 (gInS false) δa δb)) := pt_cmp' op_in_str (fun Xw F H x y dx dy Q s hx hy w => by
  unfold gInS at w
  split at w
  · exact ⟨_, _, hx.1, hy.1, WP.now w s rfl⟩
  · exact w.elim) ha hb hm
end
end L3


set_option Elab.async false
set_option linter.all false
set_option maxRecDepth 100000
/-! THE PURE LAYER, 13: slices -/
namespace L3
open PySem PySem.Spec L2 SeqAt HT
open PyProof.Rows hiding St

section
variable {prog : Program} {w : World} {A : Around} {E : Value → Shared → Prop} {s : Shared}
theorem getItem_tuple_whole {t sl : Addr} {items : Array Value} {vl vu : Value} {lo hi : Option Int} {Q : Value → Shared → Prop} (ht : IsTup s.heap t items) (hs : s.heap.IsSliceOf sl vl vu .none) (pl : IsPart vl lo) (pu : IsPart vu hi)
    (hw : sIx items.size 0 lo = 0 ∧ sIx items.size items.size hi = items.size) (h : Q (.ref t) s) : wpAny (model prog w) A (getItem (.ref t) (.ref sl)) Q E s := by
  obtain ⟨os, hos, hcs, hds⟩ := id hs
  have hTs : s.TypeIs (.ref sl) "slice" := ⟨os, hos, hcs⟩
  unfold getItem
  try with_reducible refine wpAny_holding ?_
  first | refine wpAny_bind (wpAny_pure ?_) | skip
  refine wpAny_bind (wpAny_sequenceKey ht.typeIs (by decide) ?_)
  refine wpAny_bind (wpAny_callSpecial?_slot (name := Str.ofString "__getitem__") ht.typeIs PyProof.Rows.slot_tuple_getitem
    (wpAny_call_entry PyProof.Rows.slot_tuple_getitem ht.typeIs entry_tuple_getitem ?_ (args_tuple_getitem _ _)))
  show wpAny _ _ (Builtin.Tuple.tupleItemsOf (.ref t) >>= _) _ _ s
  refine wpAny_bind (tupleItemsOf_ ht ?_)
  refine wpAny_bind (wpAny_typeOf hTs ?_)
  rw [if_pos (by decide)]
  refine wpAny_bind (sliceApplied_gen hs pl pu ?_)
  have hno : ((((sIx items.size 0 lo : Nat) : Int) == 0 && (1 : Int) == 1 && (sIx items.size items.size hi - sIx items.size 0 lo) == items.size) = true) := by
    rw [hw.1, hw.2]
    simp
  show wpAny _ _ (if (((sIx items.size 0 lo : Nat) : Int) == 0 && (1 : Int) == 1 && (sIx items.size items.size hi - sIx items.size 0 lo) == items.size) = true then _ else _) _ _ s
  rw [if_pos hno]
  refine wpAny_bind ?_
  unfold Builtin.Tuple.tupleIsExact
  refine wpAny_bind (wpAny_typeOf ht.typeIs (wpAny_pure ?_))
  rw [if_pos (by decide)]
  exact wpAny_bind (wpAny_rule (wpAny_pure ⟨_, rfl, wpAny_pure h⟩))
end
section
variable {X : Cx} {Xw : Nat → Hp → Prop} {a b e : Expr} {lo hi : Option Expr} {δ δa δb : DE} {pos p p2 : Pos}
theorem sl_tupW : SlR X (fun x lo hi H Q => ∃ a xs, x = .ref a ∧ SqT X.K H a xs ∧ (sIx xs.length 0 lo = 0 ∧ sIx xs.length xs.length hi = xs.length) ∧ Q (.ref a) H) := by
  intro pins s σ H x v vl vu lo hi sl Q I rx hs pl pu h
  obtain ⟨a, xs, rfl, hx, hw, q⟩ := h
  cases rx
  obtain ⟨its, r, ht, hz⟩ := I.tuple hx
  have hlen : its.toArray.size = xs.length := by rw [List.size_toArray]; exact r.length.symm
  exact ⟨"tuple", _, PyProof.Rows.slot_tuple_getitem.lookup, ht.typeIs, getItem_tuple_whole ht hs pl pu (by rw [hlen]; exact hw) ⟨.ref a, H, I, rfl, q⟩⟩
theorem sl_str : SlR X (fun x lo hi H Q => ∃ z : Str, x = .str z ∧ z.length ≤ lim ∧ Q (.str (Txt.slice z lo hi)) H) := by
  intro pins s σ H x v vl vu lo hi sl Q I rx hs pl pu h
  obtain ⟨z, rfl, hl, q⟩ := h
  obtain ⟨t, rfl⟩ := rx
  have hz : z.length ≤ sizeLine := by have := lim_lt; omega
  cases pl with
  | none =>
    cases pu with
    | none => exact ⟨"str", _, PySem.F.slot_str_getitem.lookup, typeIs_str _ _ _, wpAny_getItem_str_slice (l := none) (u := none) (st := none) hs rfl (post_val_or_str ⟨Nat.le_trans (Txt.slice_le z _ _) hz, fun t' k => ⟨.str _, H, I.tok k, ⟨t', rfl⟩, q⟩⟩)⟩
    | int j uj => exact ⟨"str", _, PySem.F.slot_str_getitem.lookup, typeIs_str _ _ _, wpAny_getItem_str_slice (l := none) (u := some (j, uj)) (st := none) hs rfl (post_val_or_str ⟨Nat.le_trans (Txt.slice_le z _ _) hz, fun t' k => ⟨.str _, H, I.tok k, ⟨t', rfl⟩, q⟩⟩)⟩
  | int i ui =>
    cases pu with
    | none => exact ⟨"str", _, PySem.F.slot_str_getitem.lookup, typeIs_str _ _ _, wpAny_getItem_str_slice (l := some (i, ui)) (u := none) (st := none) hs rfl (post_val_or_str ⟨Nat.le_trans (Txt.slice_le z _ _) hz, fun t' k => ⟨.str _, H, I.tok k, ⟨t', rfl⟩, q⟩⟩)⟩
    | int j uj => exact ⟨"str", _, PySem.F.slot_str_getitem.lookup, typeIs_str _ _ _, wpAny_getItem_str_slice (l := some (i, ui)) (u := some (j, uj)) (st := none) hs rfl (post_val_or_str ⟨Nat.le_trans (Txt.slice_le z _ _) hz, fun t' k => ⟨.str _, H, I.tok k, ⟨t', rfl⟩, q⟩⟩)⟩
/-! ### the parts -/
abbrev DO := Rho → M (Option Int)
def WPO (Xw : Nat → Hp → Prop) (F H : Hp) (m : M (Option Int)) (Q : Option Int → Hp → Prop) : Prop :=
  match m with
  | none => False
  | some (.ok b) => ∀ H' F', Ext F H F' H' → Q b H'
  | some (.ex n) => ∀ F' H', Ext F H F' H' → Xw n H'
def tDO (K : PySem.W.Frag) (Xw : Nat → Hp → Prop) (δ : DO) : TO := fun σ H Q => ∃ F ρ, StE K F H σ ρ ∧ WPO Xw F H (δ ρ) Q
def PDO (X : Cx) (Xw : Nat → Hp → Prop) (e : Option Expr) (δ : DO) : Prop := PO X e (tDO X.K Xw δ)
def oN : DO := fun _ => M.ret none
def oS (δ : DE) : DO := fun ρ => δ ρ >>= fun d => match d with | .int i => M.ret (some i) | _ => M.stuck
theorem pdo_none : PDO X Xw none oN := fun pins s σ H Q I ⟨F, ρ, S, w⟩ => po_none pins s σ H Q I (w H F (Ext.refl S.fh))
theorem pdo_some (h : PD X Xw e δ) : PDO X Xw (some e) (oS δ) := fun pins s σ H Q I ⟨F, ρ, S, w⟩ => po_some h pins s σ H Q I ⟨F, ρ, S, by
  have w : WPO Xw F H (δ ρ >>= fun d => match d with | .int i => M.ret (some i) | _ => M.stuck) Q := w
  rcases (δ ρ).cs with q | ⟨n, q⟩ | ⟨d, q⟩
  · rw [q] at w; exact w.elim
  · rw [q] at w ⊢; exact w
  · rw [q] at w ⊢
    intro v H' F' e' hd
    cases d with
    | int i => exact ⟨i, hd, w H' F' e'⟩
    | _ => exact w.elim⟩
theorem WP.bindO {K : PySem.W.Frag} {Xw : Nat → Hp → Prop} {F H : Hp} {Q : VK} {m : M (Option Int)} {k : Option Int → M D} (h : WP K Xw F H (m >>= k) Q) : WPO Xw F H m fun b H1 => ∃ F1, Ext F H F1 H1 ∧ WP K Xw F1 H1 (k b) Q := by
  match m, h with
  | none, h => exact h
  | some (.ok d), h => exact fun H2 F2 e2 => ⟨F2, e2, WP.ext e2 (show WP K Xw F H (k d) Q from h)⟩
  | some (.ex n), h => exact h
theorem WPO.mono {Xw : Nat → Hp → Prop} {F H : Hp} {m : M (Option Int)} {Q Q' : Option Int → Hp → Prop} (h : WPO Xw F H m Q) (k : ∀ v H', Q v H' → Q' v H') : WPO Xw F H m Q' := by
  match m, h with
  | none, h => exact h
  | some (.ok d), h => exact fun H2 F2 e2 => k _ _ (h H2 F2 e2)
  | some (.ex n), h => exact h
def cutD (ds : List D) (lo hi : Option Int) : List D := (ds.drop (sIx ds.length 0 lo)).take (sIx ds.length ds.length hi - sIx ds.length 0 lo)
def slM : D → Option Int → Option Int → M D
  | .tup ds, lo, hi => M.ret (.tup (cutD ds lo hi))
  | .lst ds, lo, hi => M.ret (.lst (cutD ds lo hi))
  | .str x, lo, hi => M.ret (.str (Txt.slice x lo hi))
  | _, _, _ => M.stuck
def dSl (a : DE) (lo hi : DO) : DE := fun ρ => a ρ >>= fun d => lo ρ >>= fun l => hi ρ >>= fun h => slM d l h
theorem cutD_len (ds : List D) (lo hi : Option Int) : (cutD ds lo hi).length ≤ ds.length := by
  unfold cutD
  rw [List.length_take, List.length_drop]
  omega
theorem DenL.cut {K : PySem.W.Frag} {F : Hp} {ds : List D} {vs : List V} (h : DenL K F ds vs) (lo hi : Option Int) : DenL K F (cutD ds lo hi) (cutV vs lo hi) := by
  unfold cutD cutV
  rw [h.len]
  exact (h.drop _).take _
theorem pd_sl {δo : DE} {κl κh : DO} (he : PD X Xw e δo) (hl : PDO X Xw lo κl) (hh : PDO X Xw hi κh) : PD X Xw (.Subscript e (.Slice lo hi none p2) pos) (dSl δo κl κh) :=
  PE.weak (pe_slice (sl_tupW.or (sl_tup.or (sl_list.or sl_str))) he hl hh) fun σ H Q ⟨F, ρ, s, w⟩ => by
    refine ⟨F, ρ, s, WP.mono (WP.bind w) fun v H1 ⟨F1, d, e1, q1, w1⟩ => ?_⟩
    refine ⟨F1, ρ, s.ext e1, WPO.mono (WP.bindO w1) fun l H2 ⟨F2, e2, w2⟩ => ?_⟩
    refine ⟨F2, ρ, (s.ext e1).ext e2, WPO.mono (WP.bindO w2) fun h H3 ⟨F3, e3, w3⟩ => ?_⟩
    have q3 := Den.mono (e2.ff.trans e3.ff) q1
    have fh := e3.fh
    cases d with
    | tup ds =>
      obtain ⟨a, vs, rfl, h2, h3, h4⟩ := q3
      by_cases hw : sIx vs.length 0 l = 0 ∧ sIx vs.length vs.length h = vs.length
      · refine .inl ⟨a, vs, rfl, SqT.of (fh _ _ h2), hw, ?_⟩
        have hc : cutD ds l h = ds := by
          unfold cutD
          rw [h3.len, hw.1, hw.2, Nat.sub_zero, List.drop_zero, ← h3.len, List.take_length]
        have w3 : WP X.K Xw F3 H3 (M.ret (.tup (cutD ds l h))) Q := w3
        rw [hc] at w3
        exact WP.now w3 fh ⟨a, vs, rfl, h2, h3, h4⟩
      · exact .inr (.inl ⟨a, vs, rfl, SqT.of (fh _ _ h2), hw, fun p hp => WP.fin w3 (Ext.lay fh hp) ⟨p, _, rfl, upd_same, DenL.mono (Ext.lay fh hp).ff (h3.cut l h), Nat.le_trans (cutD_len _ _ _) h4⟩⟩)
    | lst ds =>
      obtain ⟨a, vs, rfl, h2, h3, h4⟩ := q3
      exact .inr (.inr (.inl ⟨a, vs, rfl, SqL.of (fh _ _ h2), fun p hp => WP.fin w3 (Ext.lay fh hp) ⟨p, _, rfl, upd_same, DenL.mono (Ext.lay fh hp).ff (h3.cut l h), Nat.le_trans (cutD_len _ _ _) h4⟩⟩))
    | str x => exact .inr (.inr (.inr ⟨x, q3.1, q3.2, WP.now w3 fh ⟨rfl, Nat.le_trans (Txt.slice_le x _ _) q3.2⟩⟩))
    | _ => exact w3.elim
end
end L3


set_option Elab.async false
set_option linter.all false
set_option maxRecDepth 100000
/-! THE PURE LAYER, 14: tuple * int -/
namespace L3
open PySem PySem.Spec L2 SeqAt HT
open PyProof.Rows hiding St

section
variable {prog : Program} {w : World} {A : Around} {E : Value → Shared → Prop} {s : Shared}
end
section
variable {X : Cx} {Xw : Nat → Hp → Prop} {a b e : Expr} {δ δa δb : DE} {pos p p2 : Pos}
end
end L3


set_option Elab.async false
set_option linter.all false
set_option maxRecDepth 100000
/-! THE PURE LAYER, 15: a text's signs walked; count and index among truths -/
namespace L3
open PySem PySem.Spec L2 SeqAt HT
open PyProof.Rows hiding St

def Itz (x : Str) : It := ⟨fun i _ => i < x.cps.size, fun i H v H' => H' = H ∧ ∃ c, x.cps[i]? = some c ∧ v = .str ⟨#[c]⟩, fun i _ => x.cps.size ≤ i⟩
theorem turn_strA {P : Program} {w : World} {K : PySem.W.Frag} {tg : Expr} (it : Addr) (x : Str) (t : Tok) : Turn P w K tg (Itz x) [it] it (fun i h => i ≤ x.cps.size ∧ h.IsStrIter it "str_ascii_iterator" x t i) where
  mem := by simp
  obj := fun i h st b hb => by
    have e : b = it := by simpa using hb
    subst e
    obtain ⟨_, o, e, c, d⟩ := st
    exact ⟨o, e, fun v z => by rw [d] at z; cases z⟩
  keep := fun i h h' st k => ⟨st.1, let ⟨o, e, r⟩ := st.2; ⟨o, k it (by simp) o e, r⟩⟩
  item := by
    intro X hP hw hK hc i pins s σ H E I hf st hg
    subst hP hw hK
    obtain ⟨f0, f1, f2, f3, f4, f5⟩ := hf it (by simp)
    have hi : i < x.cps.size := hg
    refine (Walks.strAscii (prog := X.prog) (w := X.w) (I.ok.hd hc) it x t).item i s _ _ hi st.2 fun v h' tk hv st' kk => ?_
    obtain ⟨c, u, hcx, rfl⟩ := hv
    have I1 : Inv X pins σ H { s with heap := h', toks := tk } := I.turned (fun b o hb e => kk b o (by simpa using hb) e) f0 f1 f3 f4 f5
    obtain ⟨o, e, cc, dd⟩ := id st'
    exact ⟨_, rfl, go_of (s := { s with heap := h', toks := tk }) e cc dd (by decide) ⟨.str ⟨#[c]⟩, H, I1, ⟨u, rfl⟩, ⟨rfl, c, hcx, rfl⟩, ⟨hi, st'⟩, fun b hb => (hf b hb).1⟩⟩
  done := by
    intro X hP hw hK hc i pins s σ H E I hf st hg
    subst hP hw hK
    obtain ⟨f0, f1, f2, f3, f4, f5⟩ := hf it (by simp)
    have hi : i = x.cps.size := Nat.le_antisymm st.1 hg
    subst hi
    exact (Walks.strAscii (prog := X.prog) (w := X.w) (I.ok.hd hc) it x t).done s _ _ st.2 fun h' tk kk => ⟨rfl, I.turned (fun b o hb e => kk b o (by simpa using hb) e) f0 f1 f3 f4 f5⟩
  self := fun _ _ _ _ _ st h => wpAny_pyIter_striter_ascii st.2 h
theorem turn_strW {P : Program} {w : World} {K : PySem.W.Frag} {tg : Expr} (it : Addr) (x : Str) (t : Tok) : Turn P w K tg (Itz x) [it] it (fun i h => i ≤ x.cps.size ∧ h.IsStrIter it "str_iterator" x t i) where
  mem := by simp
  obj := fun i h st b hb => by
    have e : b = it := by simpa using hb
    subst e
    obtain ⟨_, o, e, c, d⟩ := st
    exact ⟨o, e, fun v z => by rw [d] at z; cases z⟩
  keep := fun i h h' st k => ⟨st.1, let ⟨o, e, r⟩ := st.2; ⟨o, k it (by simp) o e, r⟩⟩
  item := by
    intro X hP hw hK hc i pins s σ H E I hf st hg
    subst hP hw hK
    obtain ⟨f0, f1, f2, f3, f4, f5⟩ := hf it (by simp)
    have hi : i < x.cps.size := hg
    refine (Walks.strWide (prog := X.prog) (w := X.w) (I.ok.hd hc) it x t).item i s _ _ hi st.2 fun v h' tk hv st' kk => ?_
    obtain ⟨c, u, hcx, rfl⟩ := hv
    have I1 : Inv X pins σ H { s with heap := h', toks := tk } := I.turned (fun b o hb e => kk b o (by simpa using hb) e) f0 f1 f3 f4 f5
    obtain ⟨o, e, cc, dd⟩ := id st'
    exact ⟨_, rfl, go_of (s := { s with heap := h', toks := tk }) e cc dd (by decide) ⟨.str ⟨#[c]⟩, H, I1, ⟨u, rfl⟩, ⟨rfl, c, hcx, rfl⟩, ⟨hi, st'⟩, fun b hb => (hf b hb).1⟩⟩
  done := by
    intro X hP hw hK hc i pins s σ H E I hf st hg
    subst hP hw hK
    obtain ⟨f0, f1, f2, f3, f4, f5⟩ := hf it (by simp)
    have hi : i = x.cps.size := Nat.le_antisymm st.1 hg
    subst hi
    exact (Walks.strWide (prog := X.prog) (w := X.w) (I.ok.hd hc) it x t).done s _ _ st.2 fun h' tk kk => ⟨rfl, I.turned (fun b o hb e => kk b o (by simpa using hb) e) f0 f1 f3 f4 f5⟩
  self := fun _ _ _ _ _ st h => wpAny_pyIter_striter_wide st.2 h
section
variable {X : Cx} {Xw : Nat → Hp → Prop} {tg a b e l o : Expr} {δ δa δb δo : DE} {δs : DA} {pos p p2 apos cpos : Pos}
def iStr (tl : TE) : TI := fun σ H R => tl σ H fun x H1 => ∃ z, x = .str z ∧ R (Itz z) H1
theorem pi_str {tl : TE} (hl : PE X l tl) : PI X tg l (iStr tl) := by
  intro pins s σ H R I h
  refine thn (hl pins s σ H _ I h) fun v s1 ⟨x, H1, I1, r1, q1⟩ => ?_
  obtain ⟨z, e, q⟩ := q1
  subst e
  obtain ⟨t, rfl⟩ := r1
  have fp : ∀ b ∈ [s1.heap.objs.size], FpOk X pins H1 b := fun b hb => by
    have e : b = s1.heap.objs.size := by simpa using hb
    subst e
    exact I1.fpOk (Nat.le_refl _) (I1.hok.fresh (Nat.le_refl _))
  cases ha : z.cps.all (· < 128)
  · exact wpAny_pyIter_wide ha ⟨s1.heap.objs.size, [s1.heap.objs.size], _, _, H1, rfl, I1.kept (t' := s1.toks) fun b o e => Heap.get?_push_of_some _ e, turn_strW _ z t, ⟨Nat.zero_le _, _, Heap.get?_push_size _ rfl, rfl, rfl⟩, fp, q⟩
  · exact wpAny_pyIter_ascii ha ⟨s1.heap.objs.size, [s1.heap.objs.size], _, _, H1, rfl, I1.kept (t' := s1.toks) fun b o e => Heap.get?_push_of_some _ e, turn_strA _ z t, ⟨Nat.zero_le _, _, Heap.get?_push_size _ rfl, rfl, rfl⟩, fp, q⟩
/-- the signs of a text -/
def signs (x : Str) : List D := x.cps.toList.map fun c => D.str ⟨#[c]⟩
def sgnM : D → M (List D)
  | .str x => M.ret (signs x)
  | _ => M.stuck
theorem itd_str {K : PySem.W.Frag} {F : Hp} (x : Str) : ItD K F (Itz x) (signs x) := fun F' H' i s1 s2 => by
  refine ⟨fun d e => ?_, fun hl => show x.cps.size ≤ i by simpa [signs] using hl⟩
  unfold signs at e
  rw [List.getElem?_map] at e
  cases q : x.cps.toList[i]? with
  | none => rw [q] at e; cases e
  | some c =>
    rw [q] at e
    cases e
    have hi : i < x.cps.size := by
      have := (List.getElem?_eq_some_iff.mp q).1
      simpa using this
    refine ⟨hi, fun v H'' y => ?_⟩
    obtain ⟨e2, c', hc', rfl⟩ := y
    subst e2
    have : c' = c := by
      have q' : x.cps[i]? = some c := by simpa using q
      rw [q'] at hc'
      exact (Option.some.inj hc').symm
    subst this
    exact ⟨F', Ext.refl s2, rfl, by show 1 ≤ lim; decide⟩
theorem pdi_str (h : PD X Xw l δ) : PDI X Xw tg l (fun ρ => δ ρ >>= sgnM) := PI.weak (pi_str h) fun σ H R ⟨F, ρ, s, w⟩ => by
  refine ⟨F, ρ, s, WP.mono (WPI.bind w) fun v H1 ⟨F1, d, e1, q1, w1⟩ => ?_⟩
  cases d with
  | str z => exact ⟨z, q1.1, w1 _ _ _ (Ext.refl e1.fh) (itd_str z)⟩
  | _ => exact w1.elim
/-! ### flags.count(True), flags.index(True) -/
def isT : Value → Bool
  | .bool b => b
  | _ => false
theorem eqAt_T {A : Around} {s : Shared} {bs : List Bool} : ∀ y, y ∈ (bs.map Value.bool).toArray → EqAt A s y (.bool true) (isT y) := fun y hy => by
  have hy : y ∈ bs.map Value.bool := by simpa using hy
  obtain ⟨b, _, rfl⟩ := List.mem_map.mp hy
  have := EqAt.bool_bool (A := A) (s := s) b true
  cases b <;> exact this
def cntM : D → List D → M D
  | .lst ds, [.bl true] => match bools ds with | some bs => M.ret (.int (bs.count true)) | none => M.stuck
  | _, _ => M.stuck
def idxM : D → List D → M D
  | .lst ds, [.bl true] => match bools ds with
    | some bs => if bs.contains true then M.ret (.int (bs.idxOf true)) else M.stuck
    | none => M.stuck
  | _, _ => M.stuck
theorem countP_T : ∀ bs : List Bool, (bs.map Value.bool).countP isT = bs.count true
  | [] => rfl
  | b :: bs => by
    rw [List.map_cons, List.countP_cons, countP_T bs, List.count_cons]
    cases b <;> rfl
def rCnt : V → List V → Hp → VK → Prop := fun x vs H Q => ∃ (a : Addr) (bs : List Bool), x = .ref a ∧ vs = [.bl true] ∧ H a = some (.lst (bs.map V.bl)) ∧ Q (.int (bs.count true)) H
def rIdx : V → List V → Hp → VK → Prop := fun x vs H Q => ∃ (a : Addr) (bs : List Bool), x = .ref a ∧ vs = [.bl true] ∧ H a = some (.lst (bs.map V.bl)) ∧ bs.contains true = true ∧ Q (.int (bs.idxOf true)) H
theorem mt_cnt : MtR X "list.count" rCnt := by
  intro pins s σ H x vs v us Q I rx rv h
  obtain ⟨a, bs, rfl, rfl, hH, q⟩ := h
  cases rx
  obtain ⟨u, rfl, r1⟩ := rv.one
  cases (show u = _ from r1)
  obtain ⟨z, its, n, r, hl, e⟩ := I.lstM hH
  obtain rfl := vals_bl r
  refine call_meets F.slot_list_count ⟨_, e, rfl⟩ F.entry_list_count (F.args_list_count_2 _ _) (list_countAt a _ n none #[] (.bool true) isT) ⟨e, eqAt_T, ?_⟩
  have ec : ((bs.map Value.bool).toArray.toList.countP isT) = bs.count true := countP_T bs
  rw [ec]
  exact ⟨.int (bs.count true), H, I.tok _, ⟨_, rfl⟩, q⟩
theorem mt_idx : MtR X "list.index" rIdx := by
  intro pins s σ H x vs v us Q I rx rv h
  obtain ⟨a, bs, rfl, rfl, hH, hc, q⟩ := h
  cases rx
  obtain ⟨u, rfl, r1⟩ := rv.one
  cases (show u = _ from r1)
  obtain ⟨z, its, n, r, hl, e⟩ := I.lstM hH
  obtain rfl := vals_bl r
  have hm : true ∈ bs := by simpa using hc
  have hlt : bs.idxOf true < bs.length := List.idxOf_lt_length_iff.mpr hm
  have hz : bs.length ≤ sizeLine := by simpa using z
  have hs : sizeLine = 16777216 := sizeLine_eq
  refine call_meets F.slot_list_index ⟨_, e, rfl⟩ F.entry_list_index (F.args_list_index_2 _ _) (list_indexAt a _ n none #[] (.bool true) isT (bs.idxOf true) (by simpa using hlt) (by omega) ?_ ?_) ⟨e, eqAt_T, ?_⟩
  · have : bs[bs.idxOf true] = true := List.getElem_idxOf hlt
    simp [isT, this]
  · intro m hm' hlt'
    have hm2 : m < bs.length := by simpa using hm'
    have : bs[m] ≠ true := fun z => by
      have := List.not_of_lt_findIdx (p := (· == true)) (xs := bs) (i := m) hlt'
      rw [z] at this
      simp at this
    simp [isT]
    simpa using this
  · exact ⟨.int (bs.idxOf true), H, I.tok _, ⟨_, rfl⟩, q⟩
theorem pd_cnt (ho : PD X Xw o δo) (ha : PDA X Xw [e] δs) (hbase : attributeBase o "count" X.env (eval o X.env) = eval o X.env := by rfl)
    (hfew : ((backTo cpos (starEach [e] X.env)).all (fun x => !x.1) && (backToKw cpos (keywordEach [] X.env)).all (fun x => x.1.isSome) && decide ([e].length + ([] : List Keyword).length + (if ([] : List Keyword).isEmpty then 0 else 1) < 30)) = true := by rfl)
    (hline : (apos.endLine == cpos.line) = true := by rfl) (hst : starEach [e] X.env = [(false, eval e X.env)] := by rfl) : PD X Xw (.Call (.Attribute o "count" apos) [e] [] cpos) (dM isLst cntM δo δs) :=
  pd_bm PySem.F.plainAttrs_list PySem.F.slot_list_count PySem.F.type_list_count mt_cnt isLst_ty (fun Xw F H x vs d ds Q s hx hv w => by
    unfold cntM at w
    split at w
    · rename_i ds
      obtain ⟨v, rfl, h1⟩ := hv.one
      cases (show _ = _ from h1)
      obtain ⟨a, ws, rfl, h2, h3, _⟩ := hx
      split at w
      · rename_i bs hb
        exact ⟨a, bs, rfl, rfl, by rw [← bools_den hb h3]; exact s _ _ h2, WP.now w s rfl⟩
      · exact w.elim
    · exact w.elim) ho ha hbase hfew hline hst rfl
theorem pd_idx (ho : PD X Xw o δo) (ha : PDA X Xw [e] δs) (hbase : attributeBase o "index" X.env (eval o X.env) = eval o X.env := by rfl)
    (hfew : ((backTo cpos (starEach [e] X.env)).all (fun x => !x.1) && (backToKw cpos (keywordEach [] X.env)).all (fun x => x.1.isSome) && decide ([e].length + ([] : List Keyword).length + (if ([] : List Keyword).isEmpty then 0 else 1) < 30)) = true := by rfl)
    (hline : (apos.endLine == cpos.line) = true := by rfl) (hst : starEach [e] X.env = [(false, eval e X.env)] := by rfl) : PD X Xw (.Call (.Attribute o "index" apos) [e] [] cpos) (dM isLst idxM δo δs) :=
  pd_bm PySem.F.plainAttrs_list PySem.F.slot_list_index PySem.F.type_list_index mt_idx isLst_ty (fun Xw F H x vs d ds Q s hx hv w => by
    unfold idxM at w
    split at w
    · rename_i ds
      obtain ⟨v, rfl, h1⟩ := hv.one
      cases (show _ = _ from h1)
      obtain ⟨a, ws, rfl, h2, h3, _⟩ := hx
      split at w
      · rename_i bs hb
        split at w
        · rename_i hc
          exact ⟨a, bs, rfl, rfl, by rw [← bools_den hb h3]; exact s _ _ h2, hc, WP.now w s rfl⟩
        · exact w.elim
      · exact w.elim
    · exact w.elim) ho ha hbase hfew hline hst rfl
end
end L3


set_option Elab.async false
set_option linter.all false
set_option maxRecDepth 100000
/-! THE PURE LAYER, 16: isinstance of an own exception -/
namespace L3
open PySem PySem.Spec L2 SeqAt HT
open PyProof.Rows hiding St
open PySem.W (Frag Looks InstAt findIn mroIn)
open PySem.Builtin PySem.Builtin.ObjectAttr PySem.Builtin.Getset_descriptor

section
variable {prog : Program} {w : World} {A : Around} {E : Value → Shared → Prop} {h : Heap} {g : Array GenState} {d : Drawn} {t : Nat} {os : OsState} {x D : Addr} {ox : Obj} {K : Frag}
theorem class_get' {tp : Value} {R : Result → Shared → Prop} (X : K.In h) (hx : h.get? x = some ox) (hc : ox.cls = .ref D) (hm : mroIn K D (.type "object") = some true)
    (hq : R (.ok (.ret (.ref D))) ⟨h, g, d, t, os⟩) : codeAny (model prog w) A (.call (.builtin "getset_descriptor.__get__") ⟨[.builtin "object.__class__", .ref x, tp], []⟩) R ⟨h, g, d, t, os⟩ := by
  have L0 : Looks (model prog w) h (typeOf (.ref x)) (.ref D) := hc ▸ (Looks.ld hx).andThen .now
  have L1 := PySem.W.looks_mroIn (M := model prog w) X hm
  refine codeAny_call_builtin PySem.W.KF.slot_gs.plain PySem.W.KF.entry_gs (PySem.W.KF.slot_gs.check _ _ _ _ _ _ _ _ PySem.W.KF.type_class (PySem.W.KF.args_gs _ _ _) ?_)
  unfold Builtin.«getset_descriptor.__get__» descrGet
  rw [PySem.W.dga_obj]
  refine wpAny_bind (wpAny_pure ?_)
  unfold descrGetter descrCheckInstance descrNameAndClass isInstance
  simp only [PySem.W.KF.owner_class]
  repeat lk
  refine ⟨Code.quiet_builtin _ (by decide +kernel), codeAny_builtin PySem.W.KF.entry_class ?_⟩
  unfold Builtin.«object.__class__» shownTypeOf
  repeat lk
  exact hq
theorem class_entry_exc {tk : Tok} {Q : PySem.Fin → Shared → Prop} (X : K.In h) (hx : h.get? x = some ox) (hc : ox.cls = .ref D) (ha : findIn K (.ref D) "__class__" = some (some (.builtin "object.__class__"))) (hm : mroIn K D (.type "object") = some true)
    (hq : Q (.done (.ret (.ref D))) ⟨h, g, d, t, os⟩) : wpAny (model prog w) A (Builtin.«object.__getattribute__» ⟨[.ref x, .str "__class__" tk], []⟩) Q E ⟨h, g, d, t, os⟩ := by
  have hT5 : (⟨h, g, d, t, os⟩ : Shared).TypeIs (.builtin "object.__class__") "getset_descriptor" := F.typeOf_object_class
  have f5 := F.typeOf_object_class
  have f6 := F.slot_gs_get.lookup
  have f7 := F.slot_gs_set.lookup
  have LC : Looks (model prog w) h (typeLookup (.ref D) "__class__") (some (.builtin "object.__class__")) := PySem.W.looks_findIn X ha
  repeat (any_goals (first | assumption | (with_reducible refine wpAny_loadPart_at hx ?_; rw [hc]) | with_reducible refine LC.at ?_ | wp_step))
  exact class_get' X hx hc hm (wpAny_pure hq)
theorem check_ga_exc {M : Model} {nameV : Value} {Q : Unit → Shared → Prop} (X : K.In h) (hx : h.get? x = some ox) (hc : ox.cls = .ref D) (hb : mroIn K D (.type "BaseException") = some true) (hq : Q () ⟨h, g, d, t, os⟩) :
    wpAny M A (checkBuiltinCall "BaseException.__getattribute__" ⟨[.ref x, nameV], []⟩) Q E ⟨h, g, d, t, os⟩ := by
  have hk : builtinKind "BaseException.__getattribute__" = some .slot := by decide +kernel
  have hsplit : splitId "BaseException.__getattribute__" = some ("BaseException", "__getattribute__") := by decide +kernel
  have LB : Looks M h (isSubtype (.ref D) (.type "BaseException")) true := PySem.W.looks_mroIn X hb
  have ha := F.args_bexc_ga (.ref x) nameV
  simp only [checkBuiltinCall, hk, hsplit]
  refine wpAny_bind ?_
  · unfold isInstance
    repeat (first | (with_reducible refine wpAny_loadPart_at hx ?_; rw [hc]) | with_reducible refine LB.at ?_ | wp_step)
    exact hq
theorem class_call_exc {tk : Tok} {R : Result → Shared → Prop} (X : K.In h) (hx : h.get? x = some ox) (hc : ox.cls = .ref D) (ha : findIn K (.ref D) "__class__" = some (some (.builtin "object.__class__"))) (hm : mroIn K D (.type "object") = some true) (hb : mroIn K D (.type "BaseException") = some true)
    (hq : R (.ok (.ret (.ref D))) ⟨h, g, d, t, os⟩) : codeAny (model prog w) A (.call (.builtin "BaseException.__getattribute__") ⟨[.ref x, .str "__class__" tk], []⟩) R ⟨h, g, d, t, os⟩ :=
  codeAny_call_builtin (by decide +kernel) F.entry_bexc_ga (check_ga_exc X hx hc hb (class_entry_exc X hx hc ha hm hq))
theorem class_attr_exc {Q : Option Value → Shared → Prop} (X : K.In h) (hx : h.get? x = some ox) (hc : ox.cls = .ref D) (hga : findIn K (.ref D) "__getattribute__" = some (some (.builtin "BaseException.__getattribute__"))) (hgt : findIn K (.ref D) "__getattr__" = some none)
    (ha : findIn K (.ref D) "__class__" = some (some (.builtin "object.__class__"))) (hm : mroIn K D (.type "object") = some true) (hb : mroIn K D (.type "BaseException") = some true)
    (hq : Q (some (.ref D)) ⟨h, g, d, t + 1, os⟩) : wpAny (model prog w) A (getAttr? (.ref x) "__class__") Q E ⟨h, g, d, t, os⟩ := by
  have LG : Looks (model prog w) h (typeLookup (.ref D) "__getattribute__") (some (.builtin "BaseException.__getattribute__")) := PySem.W.looks_findIn X hga
  have LH : Looks (model prog w) h (typeLookup (.ref D) "__getattr__") none := PySem.W.looks_findIn X hgt
  have hx2 : (Value.builtin "BaseException.__getattribute__" == Value.builtin "object.__getattribute__") = false := by decide +kernel
  have hx1 : (onTheHeap (Value.ref D) && Value.builtin "BaseException.__getattribute__" == Value.builtin "object.__getattribute__") = false := by rw [hx2]; rfl
  have f3 := PySem.F.excAttr_ValueError.ga.bind (.ref x)
  unfold getAttr? getAttrBy?
  repeat (any_goals (first | assumption | (with_reducible refine wpAny_loadPart_at hx ?_; rw [hc]) | with_reducible refine LG.at ?_ | with_reducible refine LH.at ?_ | wp_step))
  refine class_call_exc X hx hc ha hm hb ?_
  repeat (any_goals (first | assumption | wp_step))
/-- what the walk asks of an own exception class -/
structure ExcC (K : Frag) (D : Addr) : Prop where
  ga : findIn K (.ref D) "__getattribute__" = some (some (.builtin "BaseException.__getattribute__"))
  gt : findIn K (.ref D) "__getattr__" = some none
  ca : findIn K (.ref D) "__class__" = some (some (.builtin "object.__class__"))
  mo : mroIn K D (.type "object") = some true
  mb : mroIn K D (.type "BaseException") = some true
  cl : (PySem.W.clsIn K D).isSome = true
theorem kitx_exc (c : ExcC K D) : PySem.W.KitX K (.ref x) (.ref D) (fun h => ∃ ox, h.get? x = some ox ∧ ox.cls = .ref D) where
  ty := fun _ _ _ ⟨_, hx, hc⟩ => hc ▸ (Looks.ld hx).andThen .now
  it := fun _ _ X _ => by
    obtain ⟨cdD, hcD⟩ := Option.isSome_iff_exists.mp c.cl
    unfold PySem.W.clsIn at hcD
    split at hcD
    · rename_i c' d' cd' sl' ho
      intro A' Q' E' s' k q
      unfold isType loadHead
      exact wpAny_bind (wpAny_loadPart (k _ _ (X _ _ ho)) (wpAny_pure q))
    · cases hcD
  ne := fun h tp dd its n sl X htp => by
    obtain ⟨cdD, hcD⟩ := Option.isSome_iff_exists.mp c.cl
    refine Bool.eq_false_iff.mpr fun q => ?_
    have e : D = tp := Value.ref.inj (beq_iff_eq.mp q)
    subst e
    unfold PySem.W.clsIn at hcD
    split at hcD
    · rename_i c' d' cd' sl' ho
      have z := (X _ _ ho).symm.trans htp
      cases z
    · cases hcD
  ca := fun {_ _ _ _ _ s} X ⟨_, hx, hc⟩ k => by
    obtain ⟨hh, g, d, t, os⟩ := s
    exact class_attr_exc X hx hc c.ga c.gt c.ca c.mo c.mb k
end
/-! ### an exception that is held by a name: untracked, but pinned as it stands -/
section
variable {X : Cx} {Xw : Nat → Hp → Prop} {e e2 : Expr} {δs : DA} {pos p : Pos}
theorem isExc_keeps {h h' : Heap} {ea D : Addr} (x : IsExc h ea D) (k : ∀ o, h.get? ea = some o → h'.get? ea = some o) : IsExc h' ea D := by
  obtain ⟨ox, h1, h2⟩ := x
  exact ⟨ox, k _ h1, h2⟩
def rIsx (K : Frag) : List V → Hp → VK → Prop := fun xs H Q => ∃ ea C D b, xs = [.ref ea, .ref D] ∧ H ea = some (ExO ea C) ∧ ExcC K C ∧ PySem.W.kitOne K (.ref C) (.ref D) = some b ∧ Q (.bl b) H
def rIsxT (K : Frag) : List V → Hp → VK → Prop := fun xs H Q => ∃ ea C T b, xs = [.ref ea, .ty T] ∧ H ea = some (ExO ea C) ∧ ExcC K C ∧ PySem.W.kitOne K (.ref C) (.type T) = some b ∧ Q (.bl b) H
theorem call_isx : CallR X (.builtin "isinstance") (rIsx X.K) := by
  intro pins s σ H xs us Q I r h
  obtain ⟨ea, C, D, b, rfl, hH, hc, e, q⟩ := h
  obtain ⟨u, w', rfl, r1, r2⟩ := vals2 r
  cases (show u = _ from r1)
  cases (show w' = _ from r2)
  obtain ⟨hx, _, _⟩ := I.hok ea _ hH
  exact PySem.W.kia_one (kitx_exc hc) I.kIn hx e (fun z => nomatch z) fun tk => ⟨.bl b, H, I.tok tk, rfl, q⟩
theorem call_isxT : CallR X (.builtin "isinstance") (rIsxT X.K) := by
  intro pins s σ H xs us Q I r h
  obtain ⟨ea, C, D, b, rfl, hH, hc, e, q⟩ := h
  obtain ⟨u, w', rfl, r1, r2⟩ := vals2 r
  cases (show u = _ from r1)
  cases (show w' = _ from r2)
  obtain ⟨hx, _, _⟩ := I.hok ea _ hH
  exact PySem.W.kia_one (kitx_exc hc) I.kIn hx e (fun z => nomatch z) fun tk => ⟨.bl b, H, I.tok tk, rfl, q⟩
/-- isinstance(e, C), e a caught exception -/
def isxM (K : Frag) (cs : List Addr) : List D → M D
  | [.exc C, .raw (.ref D)] => if C ∈ cs then (match PySem.W.kitOne K (.ref C) (.ref D) with | some b => M.ret (.bl b) | none => M.stuck) else M.stuck
  | [.exc C, .raw (.ty T)] => if C ∈ cs then (match PySem.W.kitOne K (.ref C) (.type T) with | some b => M.ret (.bl b) | none => M.stuck) else M.stuck
  | _ => M.stuck
theorem pd_isx {cs : List Addr} (hcs : ∀ C ∈ cs, ExcC X.K C) (hg : Gl X "isinstance") (hm : X.mg "isinstance" = none) (hb : bootBuiltins "isinstance" = some (.builtin "isinstance")) (ha : PDA X Xw [e, e2] δs) (he : starEach [e, e2] X.env = (false, eval e X.env) :: starEach [e2] X.env := by rfl)
    (hpl : (backTo pos (starEach [e2] X.env)).any (·.1) = false := by rfl) : PD X Xw (.Call (.Name "isinstance" p) [e, e2] [] pos) (dA (isxM X.K cs) δs) :=
  pd_callB (call_isx.or call_isxT) (fun Xw F H vs ds Q s h w => by
    unfold isxM at w
    split at w
    · rename_i C D
      obtain ⟨v, v', rfl, h1, h2⟩ := h.two
      cases (show _ = _ from h2)
      obtain ⟨ea, rfl, h3⟩ := h1
      split at w
      · rename_i hC
        split at w
        · rename_i b hb
          exact .inl ⟨ea, C, D, b, rfl, s _ _ h3, hcs C hC, hb, WP.now w s rfl⟩
        · exact w.elim
      · exact w.elim
    · rename_i C T
      obtain ⟨v, v', rfl, h1, h2⟩ := h.two
      cases (show _ = _ from h2)
      obtain ⟨ea, rfl, h3⟩ := h1
      split at w
      · rename_i hC
        split at w
        · rename_i b hb
          exact .inr ⟨ea, C, T, b, rfl, s _ _ h3, hcs C hC, hb, WP.now w s rfl⟩
        · exact w.elim
      · exact w.elim
    · exact w.elim) hg hm hb ha (by decide) (by decide) he hpl
end
end L3


set_option Elab.async false
set_option linter.all false
set_option maxRecDepth 100000
/-! THE PURE LAYER, 17: try .. except C as e: return .. -/
namespace L3
open PySem PySem.Spec L2 SeqAt HT
open PyProof.Rows hiding St
open PySem.W (Frag Looks findIn mroIn)

theorem isExc_keeps' {ea C : Addr} {h1 h2 : Heap} (x : IsExc h1 ea C) (k : ∀ o, h1.get? ea = some o → h2.get? ea = some o) : IsExc h2 ea C :=
  let ⟨ox, a, b⟩ := x
  ⟨ox, k ox a, b⟩
/-- the body, or what the handler tells of the exception -/
def sTry (τ : DS) (hd : Nat → M D) : DS := fun ρ => match τ ρ with
  | some (.ex n) => hd n >>= fun d => M.ret (.rt d)
  | r => r
/-- the same frame, with other pins and another wish -/
abbrev inTry (X : Cx) (pn : List (Addr × Obj)) (E : Value → Shared → Prop) : Cx := { X with pn := pn, xe := E }
/-- the handler's suite: an exception is handled -/
abbrev inSuite (X : Cx) (ea : Addr) (E : Value → Shared → Prop) : Cx := { X with A := X.A.mark (some (.ref ea)), calm := false, xe := E }
section
variable {X : Cx} {pins pn : List (Addr × Obj)} {σ : St} {H : Hp} {s : Shared} {E : Value → Shared → Prop} {ea : Addr}
theorem ok_inTry (ok : X.Ok) : (inTry X pn E).Ok := ⟨ok.mod, ok.kind, ok.glob, ok.blt, ok.above, ok.inj, ok.has, ok.cab, ok.hd, ok.frames, ok.stk, ok.exf, ok.bs, ok.bsz, ok.noex, ok.exfs, ok.funs, ok.frf⟩
theorem inv_inTry (I : Inv X pins σ H s) (hp : X.pn = []) : Inv (inTry X pins E) [] σ H s :=
  ⟨ok_inTry I.ok, I.os, I.bare, I.base, I.loc, I.cell, I.free, I.freeC, fun p q => I.pin p (by rw [hp]; rw [List.append_nil] at q; exact q), I.hok, I.len⟩
theorem ok_outTry (ok : (inTry X pn E).Ok) : X.Ok := ⟨ok.mod, ok.kind, ok.glob, ok.blt, ok.above, ok.inj, ok.has, ok.cab, ok.hd, ok.frames, ok.stk, ok.exf, ok.bs, ok.bsz, ok.noex, ok.exfs, ok.funs, ok.frf⟩
theorem inv_outTry {pins' : List (Addr × Obj)} (I : Inv (inTry X pins E) pins' σ H s) (hp : X.pn = []) : Inv X pins σ H s :=
  ⟨ok_outTry I.ok, I.os, I.bare, I.base, I.loc, I.cell, I.free, I.freeC, fun p q => I.pin p (by rw [hp] at q; exact List.mem_append_left _ q), I.hok, I.len⟩
theorem inv_inSuite (I : Inv X pins σ H s) : Inv (inSuite X ea E) pins σ H s :=
  ⟨⟨I.ok.mod, I.ok.kind, I.ok.glob, I.ok.blt, I.ok.above, I.ok.inj, I.ok.has, I.ok.cab, fun z => (by cases z), I.ok.frames, I.ok.stk, I.ok.exf, I.ok.bs, I.ok.bsz, I.ok.noex, I.ok.exfs, I.ok.funs, I.ok.frf⟩, I.os, I.bare, I.base, I.loc, I.cell, I.free, I.freeC, I.pin, I.hok, I.len⟩
theorem inv_outSuite (I : Inv (inSuite X ea E) pins σ H s) (hd : X.calm = true → X.A.handled = none) (hfr : X.A.frames = some X.stack) : Inv X pins σ H s :=
  ⟨⟨I.ok.mod, I.ok.kind, I.ok.glob, I.ok.blt, I.ok.above, I.ok.inj, I.ok.has, I.ok.cab, hd, hfr, I.ok.stk, I.ok.exf, I.ok.bs, I.ok.bsz, I.ok.noex, I.ok.exfs, I.ok.funs, I.ok.frf⟩, I.os, I.bare, I.base, I.loc, I.cell, I.free, I.freeC, I.pin, I.hok, I.len⟩
theorem inv_forget {h' : Heap} {m' : Str → Option Value} {tk : Nat} (I : Inv X pins σ H s) (hsb : Heap.SameBut X.env.locals s.heap h') (hn : h'.Ns X.env.locals m') : Inv X pins (σ.map fun _ => none) H { s with heap := h', toks := tk } := by
  have neL : ∀ b o, X.s₀.heap.get? b = some o → b ≠ X.env.locals := fun b o e => Nat.ne_of_lt (Nat.lt_of_lt_of_le (Heap.lt_size e) I.ok.above)
  refine ⟨I.ok, I.os, I.bare, ⟨fun b o e n hb hx => ?_, fun b o e n hb hx => ?_, I.base.free, fun b o e hx => ?_, I.base.tups, I.base.frzs, I.base.tbls⟩, ⟨m', hn, fun i x v h1 h2 h3 => ?_⟩, fun x c e => ?_, I.free, I.freeC, fun p hp => ?_, sameBut_hok I.hok hsb I.free, by rw [List.length_map]; exact I.len⟩
  · exact (hsb.2 b (neL b o e)).trans (I.base.keep b o e n hb hx)
  · obtain ⟨sl, q⟩ := I.base.slot b o e n hb hx
    exact ⟨sl, (hsb.2 b (neL b o e)).trans q⟩
  · obtain ⟨o', q⟩ := I.base.there b o e hx
    exact ⟨o', (hsb.2 b (neL b o e)).trans q⟩
  · rw [List.getElem?_map] at h2
    cases q : σ[i]? with
    | none => rw [q] at h2; cases h2
    | some z => rw [q] at h2; cases h2
  · obtain ⟨v, q⟩ := I.cell x c e
    exact ⟨v, q.sameBut hsb (I.cne x c e)⟩
  · obtain ⟨e, n, ne, nf, d⟩ := I.pin p hp
    exact ⟨(hsb.2 p.1 ne).trans e, n, ne, nf, d⟩
/-- a thing that has come since the entry is tracked from now on -/
theorem inv_track {a : Addr} {o : HO} (I : Inv X pins σ H s) (hn : H a = none) (h0 : X.s₀.heap.get? a = none) (hl : a ≠ X.env.locals) (hc : ∀ x c, X.env.cells.lookup x = some c → c ≠ a) (hp : ∀ p ∈ X.pn ++ pins, p.1 ≠ a) (ho : ObjOk X.prog X.w (upd H a o) s.heap a o) :
    Inv X pins σ (upd H a o) s := by
  have ne : ∀ b u, H b = some u → b ≠ a := fun b u e => ne_of_none e hn
  have ne0 : ∀ b u, X.s₀.heap.get? b = some u → b ≠ a := fun b u e z => by rw [z, h0] at e; cases e
  refine ⟨I.ok, I.os, I.bare, ⟨I.base.keep, I.base.slot, fun b u e n hx => ?_, I.base.there, fun b xs e => ?_, fun b u xs e => ?_, fun b ps e => ?_⟩, I.loc, I.cell, ?_, fun x c e => ?_, fun p q => ?_, fun b u e => ?_, I.len⟩
  · rw [upd_ne (ne0 b u e)]; exact I.base.free b u e n hx
  · have q := I.base.tups b xs e
    rw [upd_ne (ne b _ q)]; exact q
  · have q := I.base.frzs b u xs e
    rw [upd_ne (ne b _ q)]; exact q
  · obtain ⟨more, q⟩ := I.base.tbls b ps e
    exact ⟨more, by rw [upd_ne (ne b _ q)]; exact q⟩
  · rw [upd_ne (Ne.symm hl)]; exact I.free
  · rw [upd_ne (hc x c e)]; exact I.freeC x c e
  · obtain ⟨e, n, r1, r2, d⟩ := I.pin p q
    exact ⟨e, by rw [upd_ne (hp p q)]; exact n, r1, r2, d⟩
  · by_cases hb : b = a
    · subst hb; rw [upd_same] at e; cases e; exact ho
    · rw [upd_ne hb] at e
      exact (I.hok b u e).stay (fun _ _ _ q => q) (fun c q => by rw [upd_ne (ne c _ q)]; exact q) fun c xs q => by rw [upd_ne (ne c _ q)]; exact q
end
section
variable {P : Program} {w : World} {K : PySem.W.Frag} {mg : Str → Option Value} {base : Heap} {N : List Str} {qual : Str} {scope : Scope} {f : Addr} {cd : Value} {A : Around} {outer : List Env} {s₀ : Shared} {H₀ : Hp} {E : XK} {cv : Nat → Value}
theorem psd_try {Xw : Nat → Hp → Prop} {body suite : List Stmt} {b₀ : Stmt} {x n : Str} {np hpos pos : Pos} {i : Nat} {Cp : Addr} {τb τh : DS} {hd : Nat → M D} {cA : Nat → Addr}
    (hcv : ∀ k, cv k = .ref (cA k)) (hN : (cxOf (CX1 P w cv) P w K mg base N qual scope f cd A outer s₀ H₀ E).N.Nodup) (hi : (cxOf (CX1 P w cv) P w K mg base N qual scope f cd A outer s₀ H₀ E).N[i]? = some n) (hloc : (cxOf (CX1 P w cv) P w K mg base N qual scope f cd A outer s₀ H₀ E).env.scope.names.lookup n = some .local) (hg : Gl (cxOf (CX1 P w cv) P w K mg base N qual scope f cd A outer s₀ H₀ E) x) (hm : mg x = some (.ref Cp)) (hex : ∀ k, PySem.W.exmOne K (cv k) (.ref Cp) = some true)
    (hb : ∀ (pn : List (Addr × Obj)) (Ec : Value → Shared → Prop) (Xw' : Nat → Hp → Prop), Passes (CX1 P w cv) (inTry (cxOf (CX1 P w cv) P w K mg base N qual scope f cd A outer s₀ H₀ E) pn Ec) (EX cv Xw') → PSDs (inTry (cxOf (CX1 P w cv) P w K mg base N qual scope f cd A outer s₀ H₀ E) pn Ec) Xw' body τb)
    (hs : ∀ ea, PSDs (inSuite (cxOf (CX1 P w cv) P w K mg base N qual scope f cd A outer s₀ H₀ E) ea fun _ _ => False) (fun _ _ => False) (b₀ :: suite) τh) (hh : ∀ (k : Nat) (ρ : Rho), ρ[i]? = some (some (.fz (.exc (cA k)))) → τh ρ = (hd k >>= fun d => M.ret (.rt d)))
    (hdb : (x == ("__debug__" : Str)) = false := by decide) :
    PSD (cxOf (CX1 P w cv) P w K mg base N qual scope f cd A outer s₀ H₀ E) Xw (.Try body [.ExceptHandler (some (.Name x np)) (some n) (b₀ :: suite) hpos] [] [] pos) (sTry τb fun k => noex (hd k)) := fun G₀ J₀ pins s σ H D I ⟨F, ρ, S, wq⟩ => by
  have hstk : frs (cxOf (CX1 P w cv) P w K mg base N qual scope f cd A outer s₀ H₀ E).stack = s₀.heap.objs.size :: frs outer := rfl
  have pass : Passes (CX1 P w cv) (inTry (cxOf (CX1 P w cv) P w K mg base N qual scope f cd A outer s₀ H₀ E) pins fun e s₁ => wpAny (model P w) (cxOf (CX1 P w cv) P w K mg base N qual scope f cd A outer s₀ H₀ E).A (noteFrame e (cxOf (CX1 P w cv) P w K mg base N qual scope f cd A outer s₀ H₀ E).env) (fun _ s₂ => wpAny (model P w) (cxOf (CX1 P w cv) P w K mg base N qual scope f cd A outer s₀ H₀ E).A (setFlight e none) (fun _ s₃ => wpAny (model P w) (cxOf (CX1 P w cv) P w K mg base N qual scope f cd A outer s₀ H₀ E).A (handleBy e (cxOf (CX1 P w cv) P w K mg base N qual scope f cd A outer s₀ H₀ E).env [.ExceptHandler (some (.Name x np)) (some n) (b₀ :: suite) hpos]) (SP (cxOf (CX1 P w cv) P w K mg base N qual scope f cd A outer s₀ H₀ E) pins D) (cxOf (CX1 P w cv) P w K mg base N qual scope f cd A outer s₀ H₀ E).xe s₃) (cxOf (CX1 P w cv) P w K mg base N qual scope f cd A outer s₀ H₀ E).xe s₂) (cxOf (CX1 P w cv) P w K mg base N qual scope f cd A outer s₀ H₀ E).xe s₁)
      (EX cv fun k H' => ∃ F', Ext G₀ J₀ F' H' ∧ WPS K Xw G₀ J₀ (noex (hd k) >>= fun d => M.ret (.rt d)) D) := by
    intro pins' σ' H1 s1 e s' I1 ⟨ea, nn, a0, B, H', he, hos, hgn, hok, un, fly, hB, m, hmn, F', ext', w'⟩
    subst he
    have hfr : ∀ b ∈ frs (cxOf (CX1 P w cv) P w K mg base N qual scope f cd A outer s₀ H₀ E).stack, H' b = none := fun b hb => by
      obtain ⟨_, o, ho, _⟩ := I1.stack.mem hb
      exact un.free b o ho (I1.stkFree b hb) (by simp)
    have enf : ea ∉ frs (cxOf (CX1 P w cv) P w K mg base N qual scope f cd A outer s₀ H₀ E).stack := fun hb => by
      obtain ⟨_, o, ho, hd'⟩ := fly.2.2.1.mem hb
      obtain ⟨oe, vs, q1, _, q2, _⟩ := fly.first
      rw [q1] at ho
      cases ho
      exact hd' vs q2
    have hBe : B.get? ea = none := fly.2.1
    have hnew : s1.heap.get? ea = none := by
      cases q : s1.heap.get? ea with
      | none => rfl
      | some o =>
        obtain ⟨ob, h1, _⟩ := fly.there
        have := hB ea ob h1 (.inr (by rw [q]; rfl)) enf
        rw [hBe] at this
        cases this
    have hHe : H' ea = none := by
      cases q : H' ea with
      | none => rfl
      | some u =>
        obtain ⟨ob, h1, _⟩ := fly.there
        have := hB ea ob h1 (.inl (by rw [q]; exact fun z => nomatch z)) enf
        rw [hBe] at this
        cases this
    have invAt : ∀ h₅, B.StaysIn h₅ → s'.heap.UpToSlots h₅ → Inv (cxOf (CX1 P w cv) P w K mg base N qual scope f cd A outer s₀ H₀ E) pins σ' H' { s' with heap := h₅ } := fun h₅ st ups => by
      have keepB : ∀ b o, s'.heap.get? b = some o → b ∉ frs (cxOf (CX1 P w cv) P w K mg base N qual scope f cd A outer s₀ H₀ E).stack → (H' b ≠ none ∨ (s1.heap.get? b).isSome = true) → h₅.get? b = some o := fun b o e hb hc => st b o (hB b o e hc hb)
      have un5 : Un (frs (cxOf (CX1 P w cv) P w K mg base N qual scope f cd A outer s₀ H₀ E).stack) [] H1 H' s1.heap h₅ := un_step un (fun b o e hb hc => keepB b o e hb hc) (fun b o e hb => by
        obtain ⟨_, o', ho', hd'⟩ := fly.2.2.1.mem hb
        rw [e] at ho'
        cases ho'
        exact ups b o e hd')
      have hok5 : HOk P w H' h₅ := hok_step hok hfr fun b o e hb hc => keepB b o e hb (.inl hc)
      exact inv_outTry (I1.call' (s' := { s' with heap := h₅ }) (ch := []) hos un5 hok5 hgn (fun b hb => absurd hb (by simp))) rfl
    show wpAny (model P w) (cxOf (CX1 P w cv) P w K mg base N qual scope f cd A outer s₀ H₀ E).A (noteFrame (.ref ea) (cxOf (CX1 P w cv) P w K mg base N qual scope f cd A outer s₀ H₀ E).env) _ _ s'
    refine wpAny_looks_onW (base := B) (outer := outer) (L := s₀.heap.objs.size) I1.ok.frames rfl fly fun h₄ held₄ ups₄ => ?_
    refine wpAny_landsW held₄ fun h₅ fly₅ ups₅ => ?_
    have J5 := invAt h₅ fly₅.1 (ups₄.trans ups₅)
    have M5 : Inv (inSuite (cxOf (CX1 P w cv) P w K mg base N qual scope f cd A outer s₀ H₀ E) ea fun _ _ => False) pins σ' H' { s' with heap := h₅ } := inv_inSuite J5
    refine wpAny_handleBy_cons (codeAny_handlers_test (ld_glob M5 hg hm ?_ hdb)) (by intro q; cases q)
    have LT : Looks (model P w) h₅ (typeOf (.ref ea)) (cv nn) := by
      obtain ⟨ob, h1, h2⟩ := fly₅.there
      exact h2 ▸ (Looks.ld h1).andThen .now
    refine (PySem.W.exm_one M5.kIn LT (hex nn)).here ?_
    refine codeAny_handlers_suite_as ?_
    refine lands_againW fly₅ fun h₆ fly₆ ups₆ => ?_
    have J6 := invAt h₆ fly₆.1 ((ups₄.trans ups₅).trans ups₆)
    have M6 : Inv (inSuite (cxOf (CX1 P w cv) P w K mg base N qual scope f cd A outer s₀ H₀ E) ea fun _ _ => False) pins σ' H' { s' with heap := h₆ } := inv_inSuite J6
    have nloc : ea ≠ (cxOf (CX1 P w cv) P w K mg base N qual scope f cd A outer s₀ H₀ E).env.locals := fun z => enf (by rw [hstk, z]; exact List.mem_cons_self)
    have ncell : ∀ y c, (cxOf (CX1 P w cv) P w K mg base N qual scope f cd A outer s₀ H₀ E).env.cells.lookup y = some c → c ≠ ea := fun y c q z => by
      obtain ⟨v, o, ho, _⟩ := I1.cell y c q
      rw [z, hnew] at ho
      cases ho
    refine store_ok2 J6 hN hi (.inl hloc) (v := .ref ea) rfl (fun s7 I7 ⟨a, sb, ha⟩ => ?_) (.inr hloc)
    have hea7 : IsExc s7.heap ea (cA nn) := by
      obtain ⟨ob, h1, h2⟩ := fly₆.there
      refine ⟨ob, (sb.2 ea ?_).trans h1, by rw [h2, hcv]⟩
      rcases ha with z | z
      · rw [z]; exact nloc
      · exact Ne.symm (ncell n a z)
    have h0 : s₀.heap.get? ea = none := by
      cases q : s₀.heap.get? ea with
      | none => rfl
      | some o =>
        obtain ⟨o', q'⟩ := I1.base.there ea o q (fun z => absurd (show ea ∈ ([] : List Addr) from z) (by simp))
        rw [hnew] at q'
        cases q'
    have I8 : Inv (inSuite (cxOf (CX1 P w cv) P w K mg base N qual scope f cd A outer s₀ H₀ E) ea fun _ _ => False) pins (σ'.set i (some (.ref ea))) (upd H' ea (ExO ea (cA nn))) s7 :=
      inv_track (inv_inSuite I7) hHe h0 nloc ncell (fun p q z => by
        have hp := I1.pin p (List.mem_append_left _ (show p ∈ pins from q))
        rw [z, hnew] at hp
        cases hp.1) ⟨hea7, (by obtain ⟨ox, h1, _⟩ := hea7; exact ⟨ox, h1⟩), fun h1 h2 hx k => isExc_keeps' hx k⟩
    have hlen : σ'.length = N.length := I1.len
    have hil : i < σ'.length := by rw [hlen]; exact (List.getElem?_eq_some_iff.mp hi).1
    have eL := Ext.lay (o := ExO ea (cA nn)) ext'.fh hHe
    have hρ : ((List.replicate σ'.length none).set i (some (Sl.fz (.exc (cA nn)))))[i]? = some (some (.fz (.exc (cA nn)))) := List.getElem?_set_self (by simpa using hil)
    have only : ∀ (j : Nat) (sl : Sl), ((List.replicate σ'.length (none : Option Sl)).set i (some (Sl.fz (.exc (cA nn)))))[j]? = some (some sl) → j = i ∧ sl = .fz (.exc (cA nn)) := fun j sl e => by
      by_cases hj : j = i
      · subst hj
        rw [hρ] at e
        cases e
        exact ⟨rfl, rfl⟩
      · rw [List.getElem?_set_ne (Ne.symm hj), List.getElem?_replicate] at e
        split at e <;> cases e
    have S8 : StOk K G₀ J₀ (upd F' ea (ExO ea (cA nn))) (upd H' ea (ExO ea (cA nn))) (σ'.set i (some (.ref ea))) ((List.replicate σ'.length none).set i (some (.fz (.exc (cA nn))))) := by
      refine ⟨ext'.trans eL, ⟨eL.fh, fun j sl e => ?_⟩, by simp, fun j c a e => ?_, fun j k c c' a e => ?_⟩
      · obtain ⟨rfl, rfl⟩ := only j sl e
        exact ⟨.ref ea, List.getElem?_set_self hil, ea, rfl, upd_same⟩
      · obtain ⟨_, z⟩ := only j _ e
        cases z
      · obtain ⟨_, z⟩ := only j _ e
        cases z
    have hcm : cA m = cA nn := by
      have := hmn
      rw [hcv, hcv] at this
      exact (Value.ref.inj this).symm
    have w8 : WPS K (fun _ _ => False) G₀ J₀ (τh ((List.replicate σ'.length none).set i (some (.fz (.exc (cA nn)))))) { nx := fun _ _ => False, rt := D.rt } := by
      rw [hh m _ (by rw [hcm]; exact hρ)]
      rcases (hd m).cs with q | ⟨k, q⟩ | ⟨d, q⟩
      · rw [q] at w'; exact w'.elim
      · rw [q] at w'; exact w'.elim
      · rw [q] at w' ⊢; exact w'
    refine wpAny_mono (hs ea G₀ J₀ pins s7 _ _ { nx := fun _ _ => False, rt := D.rt } I8 ⟨_, _, S8, w8⟩) (fun fl s8 q8 => ?_) fun _ _ z => z.elim
    cases fl with
    | next => obtain ⟨_, _, _, z⟩ := q8; exact z.elim
    | brk => obtain ⟨_, _, _, z⟩ := q8; exact z.elim
    | cont => obtain ⟨_, _, _, z⟩ := q8; exact z.elim
    | ret u =>
      obtain ⟨v, σ9, H9, I9, rv, q9⟩ := q8
      have I10 : Inv (cxOf (CX1 P w cv) P w K mg base N qual scope f cd A outer s₀ H₀ E) pins σ9 H9 s8 := inv_outSuite I9 J5.ok.hd J5.ok.frames
      obtain ⟨mm, hns, _⟩ := I10.loc
      exact wpAny_nameGoes hloc hns (by rw [show (cxOf (CX1 P w cv) P w K mg base N qual scope f cd A outer s₀ H₀ E).env.scope.kind = .function from I10.ok.kind]; rfl) fun h' m' hn' hsb => ⟨v, _, H9, inv_forget I10 hsb hn', rv, q9⟩
  have wb : WPS K (fun k H' => ∃ F', Ext G₀ J₀ F' H' ∧ WPS K Xw G₀ J₀ (noex (hd k) >>= fun d => M.ret (.rt d)) D) G₀ J₀ (τb ρ) D := by
    unfold sTry at wq
    match τb ρ, wq with
    | none, wq => exact wq
    | some (.ok (.nx ρ')), wq => exact wq
    | some (.ok (.rt d)), wq => exact wq
    | some (.ex k), wq => exact fun F' H' e => ⟨F', e, wq⟩
  refine wpAny_Try_except (wpAny_mono (hb pins _ _ pass G₀ J₀ [] s σ H D (inv_inTry I rfl) ⟨F, ρ, S, wb⟩) (fun fl s1 q1 => ?_) fun _ _ z => z)
  cases fl with
  | next => obtain ⟨σ1, H1, I1, q⟩ := q1; exact wpAny_execs_nil ⟨σ1, H1, inv_outTry I1 rfl, q⟩
  | brk => obtain ⟨σ1, H1, I1, q⟩ := q1; exact ⟨σ1, H1, inv_outTry I1 rfl, q⟩
  | cont => obtain ⟨σ1, H1, I1, q⟩ := q1; exact ⟨σ1, H1, inv_outTry I1 rfl, q⟩
  | ret u => obtain ⟨v, σ1, H1, I1, r, q⟩ := q1; exact ⟨v, σ1, H1, inv_outTry I1 rfl, r, q⟩
end
end L3


set_option Elab.async false
set_option linter.all false
set_option maxRecDepth 100000
/-! THE PURE LAYER, 18: a def that is called while an exception is handled (it walks nothing and raises nothing) -/
namespace L3
open PySem PySem.Spec L2 SeqAt HT
open PyProof.Rows hiding St

structure RoomH (k : Nat) (A : Around) : Prop where
  dp : A.depth + 3 * k + 5 < recursionLimit
  un : A.units + 16 * k + 200 < cLine
theorem RoomH.deeper {k : Nat} {A : Around} (r : RoomH (k + 1) A) (env : Env) : RoomH k (A.deeper env) :=
  ⟨by have := r.dp; show A.depth + 1 + 3 * k + 5 < _; omega, by have := r.un; show A.units + 3 + 16 * k + 200 < _; omega⟩
theorem RoomH.of {k : Nat} {A : Around} (r : Room k A) (v : Option Value) : RoomH k (A.mark v) := ⟨r.dp, r.un⟩
theorem RoomH.units {k : Nat} {A : Around} (r : RoomH k A) : A.units + 64 < cLine := by have := r.un; omega
structure FnOkH (P : Program) (w : World) (K : PySem.W.Frag) (mg : Str → Option Value) (base : Heap) (k : Nat) (f : Addr) (fd : FuncData) (ps : List Str) (sp : Sp) : Prop where
  len : ∀ vs H Q E, sp vs H Q E → vs.length = ps.length
  run : ∀ (A : Around) (outer : List Env) (s : Shared) (H : Hp) (args : Args) (us : List Value) (vs : List V) (Q : VK) (E : XK), RoomH k A → Env0 P w K mg base A outer s H → BindsTo s fd args (ps.zip us) → Vals vs us → sp vs H Q E →
    codeAny (model P w) A (.call (.ref f) args) (CR CX0 outer P w H s Q E) s
abbrev cxOfH (P : Program) (w : World) (K : PySem.W.Frag) (mg : Str → Option Value) (base : Heap) (N : List Str) (qual : Str) (scope : Scope) (f : Addr) (cd : Value) (A : Around) (outer : List Env) (s : Shared) (H : Hp) : Cx :=
  { cxOf CX0 P w K mg base N qual scope f cd A outer s H E0 with calm := false, xe := fun _ _ => False }
theorem inv_startH {P : Program} {w : World} {K : PySem.W.Frag} {mg : Str → Option Value} {base : Heap} {N ps : List Str} {qual : Str} {scope : Scope} {f : Addr} {cd : Value} {A : Around} {outer : List Env} {s s1 : Shared} {H : Hp} {us : List Value} {vs : List V}
    (S : FnScope N ps scope) (e0 : Env0 P w K mg base A outer s H) (hl : vs.length = ps.length) (r : Vals vs us)
    (x : InCallC s s.heap.objs.size (bindL (envOfC qual scope s.heap.objs.size f cd).kindOf (ps.zip us) fun _ => none) (cellsFrom (s.heap.objs.size + 1) scope.names []) (bindC (envOfC qual scope s.heap.objs.size f cd).kindOf (ps.zip us) fun _ => none) s1) :
    Inv (cxOfH P w K mg base N qual scope f cd A outer s H) [] (L2.start N vs) H s1 := by
  have e1 : Env0 P w K mg base { A with handled := none } outer s H := ⟨e0.frames, e0.mod, e0.bs, e0.bsz, e0.funs, e0.frf, e0.hok, e0.bare⟩
  have J := inv_start (CX := CX0) (E := E0) (A := { A with handled := none }) S rfl e1 hl r x
  exact ⟨⟨J.ok.mod, J.ok.kind, J.ok.glob, J.ok.blt, J.ok.above, J.ok.inj, J.ok.has, J.ok.cab, fun z => (by cases z), Around.frames_deeper e0.frames, J.ok.stk, J.ok.exf, J.ok.bs, J.ok.bsz, J.ok.noex, J.ok.exfs, J.ok.funs, J.ok.frf⟩, J.os, J.bare, J.base, J.loc, J.cell, J.free, J.freeC, J.pin, J.hok, J.len⟩
theorem fn_ofH {P : Program} {w : World} {K : PySem.W.Frag} {mg : Str → Option Value} {base : Heap} {k : Nat} {f : Addr} {name qual : Str} {params : Arguments} {body : List Stmt} {scope : Scope} {dV kV doc pm cdv ct oc : Value} {an od : Option Addr}
    {osl : Array (Option Value)} {N ps : List Str} {sp : Sp} (lk : K.lookup f = some ⟨oc, od, .func (PySem.W.fnOf name qual params body scope dV kV doc pm an cdv ct), osl⟩) (hcd : PySem.W.codeIn K cdv qual = true) (S : FnScope N ps scope)
    (len : ∀ vs H Q E, sp vs H Q E → vs.length = ps.length)
    (hbody : ∀ (A : Around) (outer : List Env) (s : Shared) (H : Hp) (vs : List V) (Q : VK) (E : XK), RoomH k (A.deeper (envOfC qual scope s.heap.objs.size f cdv)) → sp vs H Q E →
      ∃ t, PSs (cxOfH P w K mg base N qual scope f cdv A outer s H) body t ∧ t { nx := fun _ H' => Q .non H', rt := Q } (L2.start N vs) H) :
    FnOkH P w K mg base (k + 1) f (PySem.W.fnOf name qual params body scope dV kV doc pm an cdv ct) ps sp := by
  refine ⟨len, fun A outer s H args us vs Q E hr e0 hb r hsp => ?_⟩
  have hl := len _ _ _ _ hsp
  have KX : K.In s.heap := e0.mod.kin.keeps fun b o e => (e0.bs b o e).1
  have lim : s.heap.NoLimit := e0.mod.nolimit.keeps fun b o e => (e0.bs b o e).1
  have hkind : ∀ y ∈ ps.zip us, scope.names.lookup y.1 = some .local ∨ (scope.names.lookup y.1 = some .cell ∧ ((cellsFrom (s.heap.objs.size + 1) scope.names []).lookup y.1).isSome = true) := fun ⟨n, v⟩ hy => by
    rcases S.par n (List.of_mem_zip hy).1 with q | q
    · exact .inl q
    · exact .inr ⟨q, PySem.W.cellsFrom_some _ _ _ (.inl q)⟩
  have hdep : A.depth < recursionLimit := by have := hr.dp; omega
  refine codeAny_call_function hdep (KX _ _ lk) rfl S.co S.gen rfl (PySem.W.codeRec_of KX hcd) (hb _ _ _ _ ?_)
  refine wpAny_newFunctionEnv_cells S.kind hkind fun env he s1 x => ?_
  subst he
  refine ⟨lim.keeps x.toInCall.keep, codeAny_func ?_⟩
  obtain ⟨t, ht, hq⟩ := hbody A outer s H vs Q E (hr.deeper _) hsp
  have I : Inv (cxOfH P w K mg base N qual scope f cdv A outer s H) [] (L2.start N vs) H s1 := inv_startH S e0 hl r x
  refine wpAny_mono (ht [] s1 (L2.start N vs) H _ I hq) (fun fl s' hs => ?_) fun e s' hs => hs.elim
  have fin : ∀ {σ' : St} {H' : Hp} {v : V} {u : Value}, Inv (cxOfH P w K mg base N qual scope f cdv A outer s H) [] σ' H' s' → RelV v u → Q v H' → CE outer P w H s Q u s' :=
    fun {σ' H' v u} J rv q => ⟨v, H', J.os, J.bare, J.base, J.hok, rv, q⟩
  cases fl with
  | ret u =>
    obtain ⟨v, σ', H', J, rv, q⟩ := hs
    exact fin J rv q
  | next =>
    obtain ⟨σ', H', J, q⟩ := hs
    exact fin (v := V.non) (u := Value.none) J rfl q
  | brk =>
    obtain ⟨_, _, _, q⟩ := hs
    exact False.elim q
  | cont =>
    obtain ⟨_, _, _, q⟩ := hs
    exact False.elim q
/-- the frame at the entry -/
theorem st_start {K : PySem.W.Frag} {F H : Hp} {N : List Str} {ds : List D} {vs : List V} (fh : Same F H) (hd : DenL K F ds vs) : StOk K F H F H (L2.start N vs) (ds.map (fun d => some (Sl.fz d)) ++ List.replicate (N.length - ds.length) none) := by
  have hlen := hd.len
  have get : ∀ (i : Nat) (sl : Sl), (ds.map (fun d => some (Sl.fz d)) ++ List.replicate (N.length - ds.length) none)[i]? = some (some sl) → ∃ d, ds[i]? = some d ∧ sl = .fz d := fun i sl e => by
    by_cases hi : i < ds.length
    · rw [List.getElem?_append_left (by simpa using hi), List.getElem?_map] at e
      cases q : ds[i]? with
      | none => rw [q] at e; cases e
      | some d => rw [q] at e; cases e; exact ⟨d, rfl, rfl⟩
    · rw [List.getElem?_append_right (by simpa using hi), List.getElem?_replicate] at e
      split at e <;> cases e
  refine ⟨Ext.refl fh, ⟨fh, fun i sl e => ?_⟩, ?_, fun i c a e => ?_, fun i j c c' a e => ?_⟩
  · obtain ⟨d, q, rfl⟩ := get i sl e
    obtain ⟨v, e1, e2⟩ := hd.get q
    have hi := (List.getElem?_eq_some_iff.mp q).1
    refine ⟨v, ?_, e2⟩
    unfold L2.start
    rw [List.getElem?_append_left (by simp; omega), List.getElem?_map, e1]
    rfl
  · unfold L2.start
    simp [hlen]
  · obtain ⟨d, _, z⟩ := get i _ e
    cases z
  · obtain ⟨d, _, z⟩ := get i _ e
    cases z
section
variable {P : Program} {w : World} {K : PySem.W.Frag} {mg : Str → Option Value} {base : Heap} {cv : Nat → Value}
theorem fn_DH {x qual : Str} {st : Stmt} {f : Addr} {fd : FuncData} {N ps : List Str} {k : Nat} {τ : DS} (Fn : Fun K x qual st f fd) (S : FnScope N ps (defScope st))
    (hbody : ∀ (cdv : Value) (A : Around) (outer : List Env) (s : Shared) (H : Hp), RoomH k (A.deeper (envOfC qual (defScope st) s.heap.objs.size f cdv)) →
      PSDs (cxOfH P w K mg base N qual (defScope st) f cdv A outer s H) (fun _ _ => False) (defBody st) τ) : FnOkH P w K mg base (k + 1) f fd ps (spD K cv ps.length fun ds => noex (runD N.length τ ds)) := by
  obtain ⟨oc, od, kV, doc, pm, an, cdv, ct, osl, rfl, lk, hcd⟩ := Fn.ex
  refine fn_ofH lk hcd S (fun vs H Q E ⟨_, _, _, _, hl, _⟩ => hl) fun A outer s H vs Q E hr hsp => ?_
  obtain ⟨F, ds, fh, hd, hl, hw⟩ := hsp
  refine ⟨_, hbody cdv A outer s H hr F H, F, _, st_start fh hd, ?_⟩
  have hw : WP K (fun n H' => E (cv n) none H') F H (noex (τ (ds.map (fun d => some (Sl.fz d)) ++ List.replicate (N.length - ds.length) none) >>= fun o => match o with | .nx _ => M.ret .non | .rt d => M.ret d)) Q := hw
  rcases (τ (ds.map (fun d => some (Sl.fz d)) ++ List.replicate (N.length - ds.length) none)).cs with e | ⟨n, e⟩ | ⟨o, e⟩
  · rw [e] at hw; exact hw.elim
  · rw [e] at hw; exact hw.elim
  · rw [e] at hw ⊢
    cases o with
    | nx ρ' => exact fun σ' F' H' s' => hw .non H' F' s'.ext rfl
    | rt d => exact fun v F' H' e' q => hw v H' F' e' q
end
section
variable {X : Cx} {Xw : Nat → Hp → Prop} {cv : Nat → Value} {k m : Nat} {f : Addr} {fd : FuncData} {ps : List Str} {g : List D → M D} {x : Str} {p pos : Pos} {e : Expr} {es : List Expr} {δs : DA}
theorem pd_callH (F : FnOkH X.prog X.w X.K X.mg X.base k f fd ps (spD X.K cv m g)) (hr : RoomH k X.A) (hg : Gl X x) (hm : X.mg x = some (.ref f)) (hk : PySem.W.keepIn X.K (.ref f) = true) (hb : Binds X.K fd ps [])
    (ha : PDA X Xw (e :: es) δs) (hdb : (x == ("__debug__" : Str)) = false := by decide) (he : starEach (e :: es) X.env = (false, eval e X.env) :: starEach es X.env := by rfl) (hpl : (backTo pos (starEach es X.env)).any (·.1) = false := by rfl) :
    PD X Xw (.Call (.Name x p) (e :: es) [] pos) (fun ρ => δs ρ >>= fun ds => if ds.length = m then noex (g ds) else M.stuck) := by
  intro pins s σ H Q I ⟨Fz, ρ, S, wq⟩
  refine wpAny_Call_Name_kw (ld_glob I hg hm ?_ hdb)
  refine PySem.W.callWith_K (h₀ := X.base) I.ok.mod.kin hk (thn (ha pos pins s σ H _ I ⟨Fz, ρ, S, WP.bindL wq⟩) fun us s1 ⟨vs, H1, I1, r, q⟩ => ⟨I1.kIn, ?_⟩) he hpl
  obtain ⟨F1, ds, e1, q1, w1⟩ := q
  split at w1
  · rename_i hl1
    have hsp : spD X.K cv m g vs H1 Q E0 := ⟨F1, ds, e1.fh, q1, by rw [← q1.len]; exact hl1, by
      rcases (g ds).cs with q | ⟨n, q⟩ | ⟨d, q⟩
      · rw [q] at w1; exact w1.elim
      · rw [q] at w1; exact w1.elim
      · rw [q] at w1 ⊢; exact w1⟩
    have hlu : us.length = ps.length := by rw [← r.length]; exact F.len _ _ _ _ hsp
    refine wpAny_call (codeAny_mono (F.run X.A X.stack s1 H1 ⟨us, []⟩ us vs Q E0 hr I1.env0 (by have := hb s1 us I1.kIn (by rw [List.append_nil]; exact hlu); rwa [List.append_nil] at this) r hsp) fun res s' hq => ?_)
    cases res with
    | error e => exact hq.elim
    | ok fl =>
      cases fl with
      | ret u => exact I1.after hq
      | next => exact False.elim hq
      | brk => exact False.elim hq
      | cont => exact False.elim hq
  · exact w1.elim
end
end L3


set_option Elab.async false
set_option linter.all false
set_option maxRecDepth 100000
/-! THE PURE LAYER, 19: what a text is told by its places -/
namespace L3
open PySem PySem.Spec L2 SeqAt HT
open PyProof.Rows hiding St

/-- a comprehension's scope, looked at once -/
def chkComp (N : List Str) (osc scope : Scope) (tn : List Str) : Bool :=
  decide (scope.kind = .function) && scope.names.all (fun y => decide (y.2 ≠ .cell)) && scope.names.all (fun y => decide (y.2 = .local → scope.names.lookup y.1 = some .local)) &&
  scope.names.all (fun y => decide (y.2 = .free → (osc.names.lookup y.1 = some .cell ∨ osc.names.lookup y.1 = some .free))) &&
  ((hideN tn N).zip N).all (fun p => decide (scope.names.lookup p.1 = none ∨ (p.1 = p.2 ∧ scope.names.lookup p.1 = some .free)))
theorem compSc_of {X : Cx} {N : List Str} {osc scope : Scope} {tn : List Str} (hN : X.N = N) (ho : X.env.scope = osc) (h : chkComp N osc scope tn = true) : CompSc X scope tn := by
  unfold chkComp at h
  simp only [Bool.and_eq_true, List.all_eq_true, decide_eq_true_eq] at h
  obtain ⟨⟨⟨⟨h1, h2⟩, h3⟩, h4⟩, h5⟩ := h
  refine ⟨h1, h2, h3, fun y hy hf => ?_, ?_⟩
  · have := h4 y hy hf
    rw [← ho] at this
    exact this
  · rw [hN]
    exact h5
/-- one name as the target -/
theorem tg_name {X : Cx} {x : Str} {px : Pos} {σ : St} (hN : X.N.Nodup) (h0 : X.N[0]? = some x) (hloc : X.env.scope.names.lookup x = some .local) : TgOk X (.Name x px) 0 σ := fun pins s σ' F H d ts v u I fh hd rv q e => by
  have e : M.ret [d] = M.ret ts := e
  have e := ret_inj e
  subst e
  refine wpAny_assign_Name (store_ok I hN h0 (.inl hloc) rv (fun s' I' => ⟨[v], ?_, .cons q .nil⟩) (.inr hloc))
  have hl : 0 < σ'.length := by rw [I.len]; exact (List.getElem?_eq_some_iff.mp h0).1
  have : σ'.set 0 (some v) = [v].map some ++ σ := by
    cases σ' with
    | nil => simp at hl
    | cons a r =>
      have hd : r = σ := by simpa using hd
      subst hd
      rfl
  rw [← this]
  exact I'
theorem passF {P : Program} {w : World} {cv : Nat → Value} {X : Cx} : Passes (CX1 P w cv) X (EX cv fun _ _ => False) := fun _ _ _ _ _ _ _ ⟨_, _, _, _, _, _, _, _, _, _, _, _, _, _, z⟩ => z.elim
/-- a def of the text, found by its name -/
def DefAt (K : PySem.W.Frag) (mg : Str → Option Value) (x : Str) (st : Stmt) (f : Addr) : Prop := mg x = some (.ref f) ∧ ∃ fd, Fun K x x st f fd
/-- a def that may be called: by its promise -/
def CallOk (P : Program) (w : World) (K : PySem.W.Frag) (mg : Str → Option Value) (base : Heap) (cv : Nat → Value) (k : Nat) (x : Str) (m : Nat) (g : List D → M D) : Prop :=
  ∃ f fd ps, mg x = some (.ref f) ∧ PySem.W.keepIn K (.ref f) = true ∧ Binds K fd ps [] ∧ FnOk P w K mg base (CX1 P w cv) k f fd ps (spD K cv m g)
section
variable {X : Cx} {Xw : Nat → Hp → Prop} {cv : Nat → Value} {k m : Nat} {g : List D → M D} {x : Str} {p pos : Pos} {e : Expr} {es : List Expr} {δs : DA}
def callF (m : Nat) (g : List D → M D) (δs : DA) : DE := fun ρ => δs ρ >>= fun ds => if ds.length = m then g ds else M.stuck
theorem pd_c (F : CallOk X.prog X.w X.K X.mg X.base cv k x m g) (hr : Room k X.A) (hg : Gl X x) (hx : Passes (CX1 X.prog X.w cv) X (EX cv Xw))
    (ha : PDA X Xw (e :: es) δs) (hl : (e :: es).length = m) (hdb : (x == ("__debug__" : Str)) = false := by decide) (he : starEach (e :: es) X.env = (false, eval e X.env) :: starEach es X.env := by rfl) (hpl : (backTo pos (starEach es X.env)).any (·.1) = false := by rfl) :
    PD X Xw (.Call (.Name x p) (e :: es) [] pos) (callF m g δs) := by
  obtain ⟨f, fd, ps, h1, h2, h3, h4⟩ := F
  exact pd_call h4 hr hg h1 h2 h3 hx ha hl hdb he hpl
end
theorem callOk_of {P : Program} {w : World} {K : PySem.W.Frag} {mg : Str → Option Value} {base : Heap} {cv : Nat → Value} {k : Nat} {x : Str} {st : Stmt} {f : Addr} {N ps : List Str} {τ : DS} (T : DefAt K mg x st f) (S : FnScope N ps (defScope st))
    (hbi : ∀ (kV doc pm : Value) (an : Option Addr) (cdv ct : Value) (us : List Value), us.length = ps.length → bindArgs (PySem.W.fnOf x x (defArgs st) (defBody st) (defScope st) .none kV doc pm an cdv ct) ⟨us, []⟩ = pure (ps.zip us))
    (hbody : ∀ (cdv : Value) (A : Around) (outer : List Env) (s : Shared) (H : Hp) (E : XK), Room k (A.deeper (envOfC x (defScope st) s.heap.objs.size f cdv)) →
      PSDs (cxOf (CX1 P w cv) P w K mg base N x (defScope st) f cdv A outer s H E) (fun n H' => E (cv n) none H') (defBody st) τ) : CallOk P w K mg base cv (k + 1) x ps.length (runD N.length τ) := by
  obtain ⟨h1, fd, Fn⟩ := T
  exact ⟨f, fd, ps, h1, Fn.kp, Fn.binds hbi, fn_D Fn S hbody⟩
end L3


set_option Elab.async false
set_option linter.all false
set_option maxRecDepth 100000
/-! THE PURE LAYER, 20: below nought, two names at once -/
namespace L3
open PySem PySem.Spec L2 SeqAt HT
open PyProof.Rows hiding St
section
variable {X : Cx} {Xw : Nat → Hp → Prop} {a e : Expr} {δ : DE} {pos : Pos}
def negM : D → M D
  | .int i => M.ret (.int (-i))
  | _ => M.stuck
theorem pd_neg (ha : PD X Xw a δ) : PD X Xw (.UnaryOp .USub a pos) (d1 negM δ) := PE.weak (pe_un un_neg ha) fun σ H Q ⟨F, ρ, s, w⟩ => by
  refine ⟨F, ρ, s, WP.mono (WP.bind w) fun v H1 ⟨F1, d, e1, q, w1⟩ => ?_⟩
  match d, q, w1 with
  | .int i, q, w1 =>
    have q : v = .int i := q
    subst q
    exact ⟨i, rfl, WP.now w1 e1.fh rfl⟩
  | .non, _, w1 => exact w1.elim
  | .bl _, _, w1 => exact w1.elim
  | .str _, _, w1 => exact w1.elim
  | .raw _, _, w1 => exact w1.elim
  | .exc _, _, w1 => exact w1.elim
  | .scr _, _, w1 => exact w1.elim
  | .tup _, _, w1 => exact w1.elim
  | .lst _, _, w1 => exact w1.elim
/-- a, b = a pair -/
def putT (i j : Nat) : D → Rho → Option Rho
  | .tup [x, y], ρ => some ((ρ.set i (some (.fz x))).set j (some (.fz y)))
  | _, _ => none
theorem put_pair {K : PySem.W.Frag} {i j : Nat} : PutOk K (gTup K 2 (gCons (gName i) (gCons (gName j) gNil))) (putT i j) := fun F₀ H₀ F H σ ρ ρ' d v Q s q e k => by
  unfold putT at e
  split at e
  · rename_i x y
    cases e
    obtain ⟨a, vs, rfl, hs, hd, hl⟩ := q
    obtain ⟨v1, v2, rfl, q1, q2⟩ := hd.two
    refine ⟨a, [v1, v2], rfl, .inl (.inl (s.st.fh _ _ hs)), rfl, v1, [v2], rfl, v2, [], rfl, rfl, ?_⟩
    exact k _ ((s.set q1).set q2)
  · cases e
end
end L3


set_option Elab.async false
set_option linter.all false
set_option maxRecDepth 100000
/-! THE PURE LAYER, 21: constants of the text by their names, defs called while an exception is handled -/
namespace L3
open PySem PySem.Spec L2 SeqAt HT
open PyProof.Rows hiding St
section
variable {X : Cx} {Xw : Nat → Hp → Prop} {pos : Pos}
theorem pd_strG {x z : Str} (hg : Gl X x) (h : ∃ t, X.mg x = some (.str z t)) (hz : z.length ≤ lim) (hdb : (x == ("__debug__" : Str)) = false := by decide) : PD X Xw (.Name x pos) (dC (.str z)) := by
  obtain ⟨t, h⟩ := h
  exact pd_glob (v := .str z) hg h ⟨t, rfl⟩ (fun _ => ⟨rfl, hz⟩) hdb
theorem pd_intG {x : Str} {i : Int} (hg : Gl X x) (h : ∃ t, X.mg x = some (.int i t)) (hdb : (x == ("__debug__" : Str)) = false := by decide) : PD X Xw (.Name x pos) (dC (.int i)) := by
  obtain ⟨t, h⟩ := h
  exact pd_glob (v := .int i) hg h ⟨t, rfl⟩ (fun _ => rfl) hdb
theorem pd_clsG {x : Str} {a : Addr} (hg : Gl X x) (h : X.mg x = some (.ref a)) (hdb : (x == ("__debug__" : Str)) = false := by decide) : PD X Xw (.Name x pos) (dC (.raw (.ref a))) :=
  pd_glob (v := .ref a) hg h rfl (fun _ => rfl) hdb
end
def CallOkH (P : Program) (w : World) (K : PySem.W.Frag) (mg : Str → Option Value) (base : Heap) (cv : Nat → Value) (k : Nat) (x : Str) (m : Nat) (g : List D → M D) : Prop :=
  ∃ f fd ps, mg x = some (.ref f) ∧ PySem.W.keepIn K (.ref f) = true ∧ Binds K fd ps [] ∧ FnOkH P w K mg base k f fd ps (spD K cv m fun ds => noex (g ds))
def callHF (m : Nat) (g : List D → M D) (δs : DA) : DE := fun ρ => δs ρ >>= fun ds => if ds.length = m then noex (noex (g ds)) else M.stuck
theorem callH_c {X : Cx} {Xw : Nat → Hp → Prop} {cv : Nat → Value} {k m : Nat} {g : List D → M D} {x : Str} {p pos : Pos} {e : Expr} {es : List Expr} {δs : DA} (F : CallOkH X.prog X.w X.K X.mg X.base cv k x m g) (hr : RoomH k X.A) (hg : Gl X x)
    (ha : PDA X Xw (e :: es) δs) (hdb : (x == ("__debug__" : Str)) = false := by decide) (he : starEach (e :: es) X.env = (false, eval e X.env) :: starEach es X.env := by rfl) (hpl : (backTo pos (starEach es X.env)).any (·.1) = false := by rfl) :
    PD X Xw (.Call (.Name x p) (e :: es) [] pos) (callHF m g δs) := by
  obtain ⟨f, fd, ps, h1, h2, h3, h4⟩ := F
  exact pd_callH h4 hr hg h1 h2 h3 ha hdb he hpl
theorem callOkH_of {P : Program} {w : World} {K : PySem.W.Frag} {mg : Str → Option Value} {base : Heap} {cv : Nat → Value} {k : Nat} {x : Str} {st : Stmt} {f : Addr} {N ps : List Str} {τ : DS} (T : DefAt K mg x st f) (S : FnScope N ps (defScope st))
    (hbi : ∀ (kV doc pm : Value) (an : Option Addr) (cdv ct : Value) (us : List Value), us.length = ps.length → bindArgs (PySem.W.fnOf x x (defArgs st) (defBody st) (defScope st) .none kV doc pm an cdv ct) ⟨us, []⟩ = pure (ps.zip us))
    (hbody : ∀ (cdv : Value) (A : Around) (outer : List Env) (s : Shared) (H : Hp), RoomH k (A.deeper (envOfC x (defScope st) s.heap.objs.size f cdv)) →
      PSDs (cxOfH P w K mg base N x (defScope st) f cdv A outer s H) (fun _ _ => False) (defBody st) τ) : CallOkH P w K mg base cv (k + 1) x ps.length (runD N.length τ) := by
  obtain ⟨h1, fd, Fn⟩ := T
  exact ⟨f, fd, ps, h1, Fn.kp, Fn.binds hbi, fn_DH Fn S hbody⟩
/-- a fact in a box: its type is not looked into when a term of it is read -/
structure Box (p : Prop) : Prop where
  out : p
section
variable {X : Cx} {Xw : Nat → Hp → Prop} {a : Expr} {δa : DE} {pos : Pos}
theorem bx_seq {st : Stmt} {rest : List Stmt} {τ τ' : DS} (h1 : Box (PSD X Xw st τ)) (h2 : Box (PSDs X Xw rest τ')) : Box (PSDs X Xw (st :: rest) (sSeq τ τ')) := ⟨psd_cons h1.out h2.out⟩
theorem bx_one {st : Stmt} {τ : DS} (h1 : Box (PSD X Xw st τ)) : Box (PSDs X Xw [st] τ) := ⟨psd_one h1.out⟩
end
end L3


set_option Elab.async false
set_option linter.all false
set_option maxRecDepth 100000
/-! THE PURE LAYER, 22: from a def's promise to the law -/
namespace L3
open PySem PySem.Spec L2 SeqAt HT
open PyProof.Rows hiding St
theorem walkD {l : PySem.W.OpenLaw} {n k : Nat} {q : Program} {loose : List Str} {XP : (Str → Option Value) → Heap → Prop} {YP : World → Heap → Prop} {d : DefRec} {K : Params → PySem.W.Frag} {x : Str} {g : List D → M D}
    (hn : l.most = some n) (hn2 : n ≤ lim) (hdf : d.params.defaults = []) (hr : Room k callerA)
    (hY : ∀ (w : World) (h : Heap), YP w h → (K w.params).In h) (hg : ∀ ns : List Int, ns.length ≤ n → g [.scr ns] = M.ret (.bl true))
    (F : ∀ (w : World) (mg : Str → Option Value) (fa : Addr) (h : Heap), (K w.params).In h → h.Ns mainGlobals mg → mg d.name = some (.ref fa) →
      ∃ (cv : Nat → Value) (fd : FuncData), (∀ (s : Shared) (u : Value), BindsTo s fd ⟨[u], []⟩ [(x, u)]) ∧
        ∀ base : Heap, (K w.params).In base → base.Ns mainGlobals mg → FnOk l.prog w (K w.params) mg base (CX1 l.prog w cv) k fa fd [x] (spD (K w.params) cv 1 g)) :
    PySem.W.WalkO q loose XP YP l.row.toRowW d [] (fun f vs => PySem.call f vs) := by
  refine Att.attach_call hn hdf fun w s₀ s₁ mg mb fa o pm cd doc a vs ns G Y ho hd hcd hmg hobj hints hlen hgs => ?_
  have KX := hY w _ Y
  obtain ⟨cv, fd, hb, hF⟩ := F w mg fa _ KX G.T.g hmg
  refine law_call KX G.T.g G.T.b G.T.builtins G.T.nolimit hgs hobj hints (Nat.le_trans hlen (Nat.le_trans hn2 (Nat.le_of_lt lim_lt))) hr hF hb (fun H hO hS => ?_) fun H e s' z => ?_
  · refine ⟨H, [.scr ns], fun _ _ e => e, ⟨_, _, rfl, ⟨a, rfl, hS, Nat.le_trans hlen hn2⟩, rfl⟩, rfl, ?_⟩
    rw [hg ns hlen]
    exact fun v H' F' e q => q
  · obtain ⟨_, _, _, _, _, _, _, _, _, _, _, _, _, _, y⟩ := z
theorem own_of {K : PySem.W.Frag} {h : Heap} {mg : Str → Option Value} {x : Str} {C : Addr} {ms : List Value} {id : String} (hK : K.In h) (hG : h.Ns mainGlobals mg) (at' : PySem.W.nsIn K mainGlobals x = some (some (.ref C)))
    (qq : PySem.W.excIn K C ms id = true) : OwnCls x C ms id mg h := OwnCls.mk (PySem.W.mg_of hK hG at') <| by
  revert qq
  unfold PySem.W.excIn
  split <;> intro qq
  rotate_left
  · exact Bool.noConfusion qq
  rename_i dict₁ rec₁ sl₁ found₁
  split at qq
  rotate_left
  · exact Bool.noConfusion qq
  rename_i C₁ mro₁ v0 v1 v2 v3 id₁ v5 em es
  rw [Bool.and_eq_true, Bool.and_eq_true, Bool.and_eq_true, Bool.and_eq_true, Bool.and_eq_true] at qq
  rcases qq with ⟨⟨⟨⟨⟨q1, q2⟩, q3⟩, q4⟩, q5⟩, q6⟩
  have q1 := eq_of_beq q1
  have q2 := eq_of_beq q2
  have q6 := eq_of_beq q6
  have q3 : rec₁.hasDel = false := by
    cases z : rec₁.hasDel
    · rfl
    · rw [z] at q3; cases q3
  subst q1 q2
  rcases rec₁ with ⟨r1, r2, r3, r4, r5, r6, r7, r8, r9, r10, r11⟩
  have em : r3 = _ := em
  have q3 : r11 = false := q3
  subst em q3
  have sl₂ : sl₁ = #[v0, v1, v2, v3, some (.builtin id₁), v5] := by
    rcases sl₁ with ⟨y⟩
    exact congrArg Array.mk es
  subst sl₂
  have n5 := Heap.Ns.of_isNs (PySem.W.isNs_of_in hK q5)
  have n6 := PySem.W.nsMap_none_of_in hK q5 q6
  exact ⟨mro₁, r4, r1, r5, r2, r6, r7, r8, r9, r10, dict₁, v0, v1, v2, v3, v5, _, hK _ _ found₁, n5, n6, PySem.W.tail_of_in hK q4⟩
theorem exm_of {K : PySem.W.Frag} {t c : Value} (h1 : PySem.W.subIn K c (.type "BaseException") = some true) (h2 : PySem.W.kitOne K t c = some true) (hne : (t == c) = false) : PySem.W.exmOne K t c = some true := by
  unfold PySem.W.exmOne
  unfold PySem.W.kitOne at h2
  rw [hne] at h2
  rw [h1]
  exact h2
end L3


set_option Elab.async false
set_option linter.all false
set_option maxRecDepth 100000
/-! THE PURE LAYER, 23: the other way round, how often a text is in a text, a def out of a list -/
namespace L3
open PySem PySem.Spec L2 SeqAt HT
open PyProof.Rows hiding St

/-! ### x[::-1] -/
theorem rev_range (n : Nat) : (List.range n).map (fun k => n - 1 - k) = (List.range n).reverse := by
  apply List.ext_getElem
  · simp
  · intro i h1 h2
    simp at h1
    rw [List.getElem_reverse]
    simp
theorem pick_rev {α : Type} (xs : Array α) : (List.range xs.size).reverse.filterMap (fun k => xs[k]?) = xs.toList.reverse := by
  rw [List.filterMap_reverse]
  congr 1
  have : ∀ n, n ≤ xs.size → (List.range n).filterMap (fun k => xs[k]?) = xs.toList.take n := by
    intro n
    induction n with
    | zero => intro _; rfl
    | succ n ih =>
      intro h
      have e : xs[n]? = some xs[n] := Array.getElem?_eq_getElem (by omega)
      rw [List.range_succ, List.filterMap_append, ih (by omega), List.take_add_one]
      simp [e]
  rw [this xs.size (Nat.le_refl _), ← Array.length_toList, List.take_length]
theorem fm_congr {α β : Type} {f g : α → Option β} : ∀ {l : List α}, (∀ x ∈ l, f x = g x) → l.filterMap f = l.filterMap g
  | [], _ => rfl
  | a :: l, h => by rw [List.filterMap_cons, List.filterMap_cons, h a (List.mem_cons_self ..), fm_congr fun x hx => h x (List.mem_cons_of_mem _ hx)]
theorem range_back (n : Nat) : sliceRange ((n : Int) - 1) (-1) (-1) = (List.range n).reverse := by
  rw [← rev_range]
  unfold sliceRange
  have e1 : ¬ ((-1 : Int) > 0) := by omega
  simp only [e1, if_false]
  by_cases h : (n : Int) - 1 > -1
  · simp only [h, if_true]
    have e2 : ((((n : Int) - 1 - -1 - -1 - 1) / (- -1)).toNat) = n := by
      have : (n : Int) - 1 - -1 - -1 - 1 = n := by omega
      rw [this]
      simp
    rw [e2]
    refine List.map_congr_left fun k hk => ?_
    have := List.mem_range.mp hk
    omega
  · simp only [h, if_false]
    have : n = 0 := by omega
    subst this
    rfl
def revS (x : Str) : Str := ⟨x.cps.toList.reverse.toArray⟩
theorem revS_len (x : Str) : (revS x).length = x.length := by
  show x.cps.toList.reverse.toArray.size = x.cps.size
  simp
section
variable {prog : Program} {w : World} {A : Around} {E : Value → Shared → Prop} {s : Shared}
theorem made_rev (x : Str) (t u : Tok) : sliceMade x t none none (some (-1, u)) = .str (revS x) := by
  unfold sliceMade slicePicked
  have h : ¬ ((((some ((-1 : Int), u)).map (·.1)).getD 1 == 1 && (Builtin.Str.strSliceIndices none none (-1) x.length).length == x.length) = true) := by
    intro q
    rw [Bool.and_eq_true] at q
    exact absurd (show ((-1 : Int) == 1) = true from q.1) (by decide)
  have e : Builtin.Str.strSliceIndices none none (-1) x.length = (List.range x.length).reverse := by
    unfold Builtin.Str.strSliceIndices
    exact range_back x.length
  show (if ((((some ((-1 : Int), u)).map (·.1)).getD 1 == 1 && (Builtin.Str.strSliceIndices none none (-1) x.length).length == x.length) = true) then Made.val (.str x t) else Made.str ⟨((Builtin.Str.strSliceIndices none none (-1) x.length).filterMap (x.cps[·]?)).toArray⟩) = _
  rw [if_neg h, e]
  show Made.str ⟨((List.range x.cps.size).reverse.filterMap (x.cps[·]?)).toArray⟩ = _
  rw [pick_rev]
  rfl
theorem applied_rev {sl : Addr} {u : Tok} {n : Nat} {Q : Int × Int × Nat → Shared → Prop} (hs : s.heap.IsSliceOf sl .none .none (.int (-1) u)) (h : Q ((n : Int) - 1, -1, n) s) :
    wpAny (model prog w) A (Builtin.Slice.sliceApplied (.ref sl) (pure (n : Int))) Q E s := by
  obtain ⟨os, hos, hcs, hds⟩ := id hs
  unfold Builtin.Slice.sliceApplied Builtin.Slice.sliceFields
  refine wpAny_bind (wpAny_bind (wpAny_field hos hds (x := .none) rfl (wpAny_bind (wpAny_field hos hds (x := .none) rfl (wpAny_bind (wpAny_field hos hds (x := .int (-1) u) rfl (wpAny_pure ?_)))))))
  refine wpAny_bind (slicePart_int ?_)
  show wpAny _ _ (if ((-1 : Int) == 0) = true then _ else _) _ _ s
  rw [if_neg (by decide)]
  refine wpAny_bind (slicePart_none (wpAny_bind (slicePart_none (wpAny_bind (wpAny_pure ?_)))))
  show wpAny _ _ (match Builtin.Slice.sliceAdjust none none (-1) (n : Int) with | (lo, hi) => pure (lo, (-1 : Int), Builtin.Slice.slicePlaces lo hi (-1))) _ _ s
  have e1 : Builtin.Slice.sliceAdjust none none (-1) (n : Int) = ((n : Int) - 1, -1) := rfl
  have e2 : Builtin.Slice.slicePlaces ((n : Int) - 1) (-1) (-1) = n := by
    unfold Builtin.Slice.slicePlaces
    have e1 : ¬ ((-1 : Int) > 0) := by omega
    simp only [e1, if_false]
    have e3 : (- (-1 : Int)) = 1 := by omega
    rw [e3, Int.ediv_one]
    split <;> omega
  rw [e1]
  show wpAny _ _ (pure ((n : Int) - 1, (-1 : Int), Builtin.Slice.slicePlaces ((n : Int) - 1) (-1) (-1))) _ _ s
  rw [e2]
  exact wpAny_pure h
theorem getItem_tuple_rev {t sl : Addr} {items : Array Value} {u : Tok} {Q : Value → Shared → Prop} (ht : IsTup s.heap t items) (hs : s.heap.IsSliceOf sl .none .none (.int (-1) u))
    (h : Q (.ref s.heap.objs.size) { s with heap := s.heap.push { cls := .type "tuple", data := .seq items.toList.reverse.toArray } }) (hsz : items.size ≤ sizeLine) : wpAny (model prog w) A (getItem (.ref t) (.ref sl)) Q E s := by
  have hr : sizeOk (.seq items.toList.reverse.toArray) := by
    show items.toList.reverse.toArray.size ≤ sizeLine
    simpa using hsz
  obtain ⟨os, hos, hcs, hds⟩ := id hs
  have hTs : s.TypeIs (.ref sl) "slice" := ⟨os, hos, hcs⟩
  unfold getItem
  try with_reducible refine wpAny_holding ?_
  first | refine wpAny_bind (wpAny_pure ?_) | skip
  refine wpAny_bind (wpAny_sequenceKey ht.typeIs (by decide) ?_)
  refine wpAny_bind (wpAny_callSpecial?_slot (name := Str.ofString "__getitem__") ht.typeIs PyProof.Rows.slot_tuple_getitem
    (wpAny_call_entry PyProof.Rows.slot_tuple_getitem ht.typeIs entry_tuple_getitem ?_ (args_tuple_getitem _ _)))
  show wpAny _ _ (Builtin.Tuple.tupleItemsOf (.ref t) >>= _) _ _ s
  refine wpAny_bind (tupleItemsOf_ ht ?_)
  refine wpAny_bind (wpAny_typeOf hTs ?_)
  rw [if_pos (by decide)]
  refine wpAny_bind (applied_rev hs ?_)
  have hno : ¬ ((((items.size : Int) - 1) == 0 && (-1 : Int) == 1 && items.size == items.size) = true) := by
    intro q
    rw [Bool.and_eq_true, Bool.and_eq_true] at q
    exact absurd q.1.2 (by decide)
  show wpAny _ _ (if (((items.size : Int) - 1) == 0 && (-1 : Int) == 1 && items.size == items.size) = true then _ else _) _ _ s
  rw [if_neg hno]
  have e : ((List.range items.size).filterMap fun (m : Nat) => items[(((items.size : Int) - 1) + (m : Int) * (-1)).toNat]?).toArray = items.toList.reverse.toArray := by
    rw [← pick_rev, ← rev_range, List.filterMap_map]
    congr 1
    refine fm_congr fun k hk => ?_
    have := List.mem_range.mp hk
    have q : (((items.size : Int) - 1) + (k : Int) * (-1)).toNat = items.size - 1 - k := by omega
    rw [q]
    rfl
  rw [e]
  first
    | exact wpAny_bind (m := Builtin.Tuple.tupleExact _) (wpAny_newObj_type (wpAny_pure ⟨_, rfl, wpAny_pure h⟩) hr)
    | exact wpAny_bind (m := Builtin.Tuple.tupleExact _) (wpAny_newObj_type (wpAny_bind (wpAny_pure (wpAny_pure ⟨_, rfl, wpAny_pure h⟩))) hr)
    | exact wpAny_bind (wpAny_bind (m := Builtin.Tuple.tupleExact _) (wpAny_newObj_type (wpAny_pure (wpAny_pure ⟨_, rfl, wpAny_pure h⟩)) hr))
    | exact wpAny_bind (wpAny_bind (m := Builtin.Tuple.tupleExact _) (wpAny_newObj_type (wpAny_pure ⟨_, rfl, wpAny_pure h⟩) hr))
end
section
variable {X : Cx} {Xw : Nat → Hp → Prop} {e est : Expr} {te ts : TE} {δ δs : DE} {pos p2 : Pos}
def RvR (X : Cx) (r : V → Hp → VK → Prop) : Prop :=
  ∀ (pins : List (Addr × Obj)) (s : Shared) (σ : St) (H : Hp) (x : V) (v : Value) (u : Tok) (sl : Addr) (Q : VK), Inv X pins σ H s → RelV x v → s.heap.IsSliceOf sl .none .none (.int (-1) u) → r x H Q →
    ∃ T id, typeLookup (.type T) "__getitem__" = pure (some (.builtin id)) ∧ s.TypeIs v T ∧ wpAny (model X.prog X.w) X.A (getItem v (.ref sl)) (EP X pins σ Q) X.xe s
theorem pe_rev {r : V → Hp → VK → Prop} (hr : RvR X r) (he : PE X e te) (hs : PE X est ts) : PE X (.Subscript e (.Slice none none (some est) p2) pos) (fun σ H Q => te σ H fun x H1 => ts σ H1 fun y H2 => y = .int (-1) ∧ r x H2 Q) := by
  intro pins s σ H Q I h
  refine Subscript_ (thn (he pins s σ H _ I h) fun v s1 ⟨x, H1, I1, r1, q1⟩ => ?_)
  refine wpAny_Slice ?_
  rw [evalPart_none]
  refine wpAny_pure (wpAny_pure ?_)
  rw [evalPart_some]
  refine thn (hs pins s1 σ H1 _ I1 q1) fun vs s3 ⟨y, H3, I3, ry, q3⟩ => ?_
  obtain ⟨rfl, q3⟩ := q3
  obtain ⟨u, rfl⟩ := ry
  have I4 : Inv X pins σ H3 { s3 with heap := s3.heap.push { cls := .type "slice", data := .fields #[.none, .none, .int (-1) u] } } := I3.kept (t' := s3.toks) fun b ob q => Heap.get?_push_of_some _ q
  obtain ⟨T, id, hT, ht, hg⟩ := hr pins { s3 with heap := s3.heap.push { cls := .type "slice", data := .fields #[.none, .none, .int (-1) u] } } σ H3 x v u s3.heap.objs.size Q I4 r1 (Heap.IsSliceOf.new ..) q3
  show wpAny (model X.prog X.w) X.A (subscriptTail e (.Slice none none (some est) p2) v (.ref s3.heap.objs.size)) (EP X pins σ Q) X.xe { s3 with heap := s3.heap.push { cls := .type "slice", data := .fields #[.none, .none, .int (-1) u] } }
  exact tail_any (ops := [v, .ref s3.heap.objs.size]) ht hT hg (by with_unfolding_all rfl)
def rRev (K : PySem.W.Frag) : V → Hp → VK → Prop := fun x H Q => (∃ z : Str, x = .str z ∧ z.length ≤ lim ∧ Q (.str (revS z)) H) ∨ ∃ a xs, x = .ref a ∧ SqT K H a xs ∧ ∀ p, H p = none → Q (.ref p) (upd H p (.tup xs.reverse))
theorem rv_all : RvR X (rRev X.K) := by
  intro pins s σ H x v u sl Q I rx hs h
  rcases h with ⟨z, rfl, hl, q⟩ | ⟨a, xs, rfl, hx, q⟩
  · obtain ⟨t, rfl⟩ := rx
    refine ⟨"str", _, PySem.F.slot_str_getitem.lookup, typeIs_str _ _ _, wpAny_getItem_str_slice (l := none) (u := none) (st := some (-1, u)) hs rfl ?_⟩
    rw [made_rev]
    exact ⟨by rw [revS_len]; have := lim_lt; omega, ⟨.str _, H, I.tok _, ⟨_, rfl⟩, q⟩⟩
  · cases rx
    obtain ⟨its, r, ht, hz⟩ := I.tuple hx
    have hlen := r.length
    refine ⟨"tuple", _, PyProof.Rows.slot_tuple_getitem.lookup, ht.typeIs, getItem_tuple_rev ht hs ?_ (by rw [List.size_toArray]; omega)⟩
    refine ⟨.ref s.heap.objs.size, _, I.laid (t' := s.toks) (o := .tup xs.reverse) (fun b ob q => Heap.get?_push_of_some _ q) (Nat.le_refl _) ?_, rfl, q _ (I.hok.fresh (Nat.le_refl _))⟩
    exact ⟨by rw [List.length_reverse]; exact hz, _, r.reverse, ⟨_, Heap.get?_push_size _ rfl, rfl, by simp⟩⟩
def revM : D → M D
  | .str x => M.ret (.str (revS x))
  | .tup ds => M.ret (.tup ds.reverse)
  | _ => M.stuck
def dRev (a st : DE) : DE := fun ρ => a ρ >>= fun d => st ρ >>= fun k => match k with
  | .int i => if i = -1 then revM d else M.stuck
  | _ => M.stuck
theorem pd_rev (he : PD X Xw e δ) (hs : PD X Xw est δs) : PD X Xw (.Subscript e (.Slice none none (some est) p2) pos) (dRev δ δs) :=
  PE.weak (pe_rev rv_all he hs) fun σ H Q ⟨F, ρ, s, w⟩ => by
    refine ⟨F, ρ, s, WP.mono (WP.bind w) fun v H1 ⟨F1, d, e1, q1, w1⟩ => ?_⟩
    refine ⟨F1, ρ, s.ext e1, WP.mono (WP.bind w1) fun y H2 ⟨F2, k, e2, q2, w2⟩ => ?_⟩
    have q3 := Den.mono e2.ff q1
    cases k with
    | int i =>
      have w2 : WP X.K Xw F2 H2 (if i = -1 then revM d else M.stuck) Q := w2
      split at w2
      · rename_i hi
        subst hi
        refine ⟨q2, ?_⟩
        cases d with
        | str x => exact .inl ⟨x, q3.1, q3.2, WP.now w2 e2.fh ⟨rfl, by rw [revS_len]; exact q3.2⟩⟩
        | tup ds =>
          obtain ⟨a, vs, rfl, h2, h3, h4⟩ := q3
          exact .inr ⟨a, vs, rfl, SqT.of (e2.fh _ _ h2), fun p hp => WP.fin w2 (Ext.lay e2.fh hp) ⟨p, _, rfl, upd_same, DenL.mono (Ext.lay e2.fh hp).ff h3.reverse, by rw [List.length_reverse]; exact h4⟩⟩
        | _ => exact w2.elim
      · exact w2.elim
    | _ => exact w2.elim
/-! ### text.count(text) -/
variable {o : Expr} {δo : DE} {δl : DA} {apos cpos : Pos}
def cntS (x y : Str) : Nat := (Builtin.Str.occurrences x y 0 x.length (x.length + 1)).length
def cntSM : D → List D → M D
  | .str x, [.str y] => M.ret (.int (cntS x y))
  | _, _ => M.stuck
theorem mt_cntS : MtR X "str.count" (fun x vs H Q => ∃ y z : Str, x = .str y ∧ vs = [.str z] ∧ Q (.int (cntS y z)) H) := by
  intro pins s σ H x vs v us Q I rx rv h
  obtain ⟨y, z, rfl, rfl, q⟩ := h
  obtain ⟨t, rfl⟩ := rx
  obtain ⟨u, rfl, r1⟩ := rv.one
  obtain ⟨t2, rfl⟩ := r1
  exact call_gives F.slot_str_count (typeIs_str _ _ _) F.entry_str_count (F.args_str_count_2 _ _) (gives_str_count y z t t2) ⟨.int (cntS y z), H, I.tok _, ⟨_, rfl⟩, q⟩
theorem pd_cntS (ho : PD X Xw o δo) (ha : PDA X Xw [e] δl) (hbase : attributeBase o "count" X.env (eval o X.env) = eval o X.env := by rfl)
    (hfew : ((backTo cpos (starEach [e] X.env)).all (fun x => !x.1) && (backToKw cpos (keywordEach [] X.env)).all (fun x => x.1.isSome) && decide ([e].length + ([] : List Keyword).length + (if ([] : List Keyword).isEmpty then 0 else 1) < 30)) = true := by rfl)
    (hline : (apos.endLine == cpos.line) = true := by rfl) (hst : starEach [e] X.env = [(false, eval e X.env)] := by rfl) : PD X Xw (.Call (.Attribute o "count" apos) [e] [] cpos) (dM isS cntSM δo δl) :=
  pd_bm PySem.F.plainAttrs_str PySem.F.slot_str_count PySem.F.type_str_count mt_cntS isS_ty (fun Xw F H x vs d ds Q s hx hv w => by
    unfold cntSM at w
    split at w
    · rename_i y z
      obtain ⟨v, rfl, h1⟩ := hv.one
      exact ⟨y, z, hx.1, by rw [h1.1], WP.now w s rfl⟩
    · exact w.elim) ho ha hbase hfew hline hst rfl
end
end L3


set_option Elab.async false
set_option linter.all false
set_option maxRecDepth 100000
/-! THE PURE LAYER, 24: reversed of a tuple; a def out of a list, called -/
namespace L3
open PySem PySem.Spec L2 SeqAt HT
open PyProof.Rows hiding St
namespace RV
theorem mro_rev : mroOf (.type "reversed") = pure [.type "reversed", .type "object"] := by rw [mroOf_type]; kernel_rfl
theorem new_rev : typeLookup (.type "reversed") "__new__" = pure (some (.builtin "reversed.__new__")) := by rw [typeLookup_type, builtinLookup_eq_fast]; kernel_rfl
theorem owner_rev : Manifest.owners.lookup (String.ofList ['d', 'e', 's', 'r', 'e', 'v', 'e', 'r'].reverse) = some Manifest.sig_reversed := by kernel_rfl
theorem slot_rev_next : Slot "reversed" "__next__" "reversed.__next__" :=
  .of (owner := "reversed") (n := "__next__") (by rw [typeLookup_type, builtinLookup_eq_fast]; kernel_rfl) (by decide +kernel) (by decide +kernel) (by decide +kernel)
    (by first | exact .inl (by decide +kernel) | exact .inr (by decide +kernel)) (by rw [isSubtype_type]; kernel_rfl)
theorem slot_rev_iter : Slot "reversed" "__iter__" "reversed.__iter__" :=
  .of (owner := "reversed") (n := "__iter__") (by rw [typeLookup_type, builtinLookup_eq_fast]; kernel_rfl) (by decide +kernel) (by decide +kernel) (by decide +kernel)
    (by first | exact .inl (by decide +kernel) | exact .inr (by decide +kernel)) (by rw [isSubtype_type]; kernel_rfl)
theorem slot_rev_init : Slot "reversed" "__init__" "object.__init__" :=
  .of (owner := "object") (n := "__init__") (by rw [typeLookup_type, builtinLookup_eq_fast]; kernel_rfl) (by decide +kernel) (by decide +kernel) (by decide +kernel)
    (by first | exact .inl (by decide +kernel) | exact .inr (by decide +kernel)) (by rw [isSubtype_type]; kernel_rfl)
theorem entry_rev_next : entryFor table "reversed.__next__" = some Builtin.«reversed.__next__» := entryFor_of_tree (by kernel_rfl)
theorem entry_rev_new : entryFor table "reversed.__new__" = some Builtin.«reversed.__new__» := entryFor_of_tree (by kernel_rfl)
theorem entry_rev_iter : entryFor table "reversed.__iter__" = some Builtin.«dict_keyiterator.__iter__» :=
  entryFor_alias (id' := "dict_keyiterator.__iter__") (by kernel_rfl) (by first | rfl | decide +kernel | (unfold String.splitOn; simp +decide [String.splitOnAux])) (by decide +kernel) (by kernel_rfl)
theorem args_rev_next (a : Value) : argsOk "reversed.__next__" ⟨[a], []⟩ := by
  unfold argsOk; rw [signature?_of (id := "reversed.__next__") (n := ['_', '_', 't', 'x', 'e', 'n', '_', '_']) (o := ['d', 'e', 's', 'r', 'e', 'v', 'e', 'r']) (by kernel_rfl) owner_rev]; kernel_rfl
theorem args_rev_iter (a : Value) : argsOk "reversed.__iter__" ⟨[a], []⟩ := by
  unfold argsOk; rw [signature?_of (id := "reversed.__iter__") (n := ['_', '_', 'r', 'e', 't', 'i', '_', '_']) (o := ['d', 'e', 's', 'r', 'e', 'v', 'e', 'r']) (by kernel_rfl) owner_rev]; kernel_rfl
theorem called_rev : TypeCalled "reversed" "reversed.__new__" "object.__init__" :=
  ⟨by decide +kernel, by decide +kernel, ⟨_, _, mro_rev⟩, madeBy_type mro_rev new_rev (by decide +kernel), by decide +kernel, by rw [isSubtype_type]; kernel_rfl, slot_rev_init⟩
theorem typeCall_rev (a : Value) : checkTypeCall "reversed" ⟨[a], []⟩ = pure () := by kernel_rfl
theorem newCall_rev (a : Value) : checkBuiltinCall "reversed.__new__" ⟨[.type "reversed", a], []⟩ = pure () := by kernel_rfl
theorem no_rev_tuple : typeLookup (.type "tuple") "__reversed__" = pure none := by rw [typeLookup_type, builtinLookup_eq_fast]; kernel_rfl
theorem tuple_not_dict : isSubtype (.type "tuple") (.type "dict") = pure false := by rw [isSubtype_type]; kernel_rfl
theorem newClass_rev (a : Value) : Builtin.SmallTypes.newClass "reversed" ⟨[.type "reversed", a], []⟩ = pure (.type "reversed", [a]) := by
  unfold Builtin.SmallTypes.newClass
  simp only [isType, called_rev.sub, pure_bind, Bool.not_true, Bool.false_eq_true, if_false]
end RV
def tupRev (t : Addr) (i : Int) : Obj := { cls := .type "reversed", data := .fields #[.ref t, rawInt i] }
def IsTupRev (h : Heap) (it t : Addr) (i : Int) : Prop := ∃ o, h.get? it = some o ∧ o.cls = .type "reversed" ∧ o.data = .fields #[.ref t, rawInt i]
theorem seqIx_nat {i n : Nat} (h : i < n) : seqIndex? (i : Int) n = some i := by
  have h1 : ¬ ((i : Int) < 0) := by omega
  have h2 : (decide (0 ≤ (i : Int)) && decide ((i : Int) < (n : Int))) = true := by simp; omega
  unfold seqIndex?
  simp only [h1, if_false]
  rw [if_pos h2]
  simp
section
variable {prog : Program} {w : World} {A : Around} {E : Value → Shared → Prop} {s : Shared}
theorem meets_rev (t : Addr) (items : Array Value) (hsz : items.size < 2 ^ 62) :
    Meets (Builtin.«reversed.__new__» ⟨[.type "reversed", .ref t], []⟩) (fun _ R s => IsTup s.heap t items ∧ ∀ tk, R (.ok (.ret (.ref s.heap.objs.size))) { s with heap := s.heap.push (tupRev t ((items.size : Int) - 1)), toks := tk }) :=
  .of_wp fun prog w A R s h => by
    obtain ⟨ht, h⟩ := h
    unfold Builtin.«reversed.__new__»
    refine wpAny_bind (wpAny_of_eq (RV.newClass_rev _) ?_)
    try dsimp only
    refine wpAny_bind (wpAny_of_eq (a := ()) (by first | rfl | kernel_rfl) ?_)
    refine wpAny_bind (wpAny_of_eq (a := ()) (by first | rfl | kernel_rfl) ?_)
    try dsimp only
    refine wpAny_bind (wpAny_specialOf ht.typeIs RV.no_rev_tuple ?_)
    try dsimp only
    refine wpAny_bind ?_
    refine wpAny_bind (m := isInstance (.ref t) (.type "dict")) (wpAny_isInstance (T := "tuple") (b := false) ht.typeIs RV.tuple_not_dict ?_)
    refine wpAny_bind (m := specialOf (.ref t) "__getitem__") (wpAny_specialOf ht.typeIs slot_tuple_getitem.lookup ?_)
    refine wpAny_pure ?_
    refine wpAny_bind (m := call (.builtin "len") [.ref t]) (len_tuple ht (by omega) ?_)
    refine wpAny_bind (wpAny_of_eq (a := some (items.size : Int)) (by first | rfl | kernel_rfl) ?_)
    refine wpAny_bind (m := newObj (.type "reversed") (.fields #[.ref t, rawInt ((items.size : Int) - 1)])) (wpAny_newObj_type ?_ (by size_fits))
    exact wpAny_pure ⟨_, rfl, h _⟩
theorem call_reversed_tuple {t : Addr} {items : Array Value} {Q : Value → Shared → Prop} (ht : IsTup s.heap t items) (hsz : items.size < 2 ^ 62)
    (h : ∀ tk, Q (.ref s.heap.objs.size) { s with heap := s.heap.push (tupRev t ((items.size : Int) - 1)), toks := tk }) : wpAny (model prog w) A (call (.type "reversed") [.ref t]) Q E s :=
  callType_new RV.called_rev (by decide) (RV.typeCall_rev _) (RV.newCall_rev _) (fun obj => F.args_object_init_2 obj _) RV.entry_rev_new (meets_rev t items hsz) ⟨ht, fun tk => ⟨⟨_, Heap.get?_push_size _ rfl, rfl⟩, h tk⟩⟩
theorem IsTupRev.typeIs {it t : Addr} {i : Int} (x : IsTupRev s.heap it t i) : s.TypeIs (.ref it) "reversed" := let ⟨o, ho, hc, _⟩ := x; ⟨o, ho, hc⟩
theorem IsTupRev.at {h h' : Heap} {it t : Addr} {i : Int} (x : IsTupRev h it t i) (e : ∀ o, h.get? it = some o → h'.get? it = some o) : IsTupRev h' it t i := let ⟨o, ho, r⟩ := x; ⟨o, e _ ho, r⟩
theorem next_rev_item {it t : Addr} {i : Nat} {items : Array Value} {x : Value} {Q : Option Value → Shared → Prop} (hit : IsTupRev s.heap it t (i : Int)) (ht : IsTup s.heap t items) (hx : items[i]? = some x) (hb : items.size < 2 ^ 62)
    (hQ : ∀ h' tk, IsTupRev h' it t ((i : Int) - 1) → Heap.SameBut it s.heap h' → Q (some x) { s with heap := h', toks := tk }) : wpAny (model prog w) A (pyNext (.ref it)) Q E s := by
  obtain ⟨o, ho, hc, hd⟩ := id hit
  have hi : i < items.size := (Array.getElem?_eq_some_iff.mp hx).1
  unfold pyNext
  refine wpAny_bind (wpAny_attempt (wpAny_callSpecial?_slot (name := Str.ofString "__next__") hit.typeIs RV.slot_rev_next
    (wpAny_call_entry RV.slot_rev_next hit.typeIs RV.entry_rev_next ?_ (RV.args_rev_next _))))
  unfold Builtin.«reversed.__next__»
  refine wpAny_bind (wpAny_of_eq (a := (Value.ref it, [])) rfl ?_)
  try dsimp only
  refine wpAny_bind (wpAny_field ho hd (x := .ref t) rfl ?_)
  refine wpAny_bind (wpAny_field ho hd (x := rawInt (i : Int)) rfl ?_)
  show wpAny _ _ (if (i : Int) < 0 then _ else _) _ _ s
  rw [if_neg (by omega)]
  refine wpAny_bind (m := specialOf (.ref t) "__getitem__") (wpAny_specialOf ht.typeIs slot_tuple_getitem.lookup ?_)
  refine wpAny_bind (wpAny_mkInt ?_)
  refine wpAny_bind (wpAny_attempt (getItem_tuple (s := { s with toks := s.toks + 1 }) ht (by omega) (by omega) (j := i) (seqIx_nat hi) hx ?_))
  try dsimp only
  refine wpAny_bind (wpAny_field (s := { s with toks := s.toks + 1 }) ho hd (x := rawInt (i : Int)) rfl ?_)
  refine wpAny_bind (wpAny_setField (s := { s with toks := s.toks + 1 }) ho hd (by simp) ?_)
  first
  | refine wpAny_pure ⟨x, rfl, wpAny_pure (hQ _ _ ?_ (Heap.SameBut.update ..))⟩
  | refine wpAny_bind (wpAny_pure (wpAny_pure ⟨x, rfl, wpAny_pure (hQ _ _ ?_ (Heap.SameBut.update ..))⟩))
  exact ⟨_, Heap.get?_update_self _ ho (Obj.isFreed_of_fields (Obj.data_mapFields hd _)), (Obj.cls_mapFields ..).trans hc, by
    rw [Obj.data_mapFields hd]; simp⟩
theorem next_rev_end {it t : Addr} {k : Int} {Q : Option Value → Shared → Prop} (hh : A.handled = none) (hit : IsTupRev s.heap it t k) (hk : k < 0)
    (hQ : ∀ h', Heap.ExtBut it s.heap h' → Q none { s with heap := h' }) : wpAny (model prog w) A (pyNext (.ref it)) Q E s := by
  obtain ⟨o, ho, hc, hd⟩ := id hit
  unfold pyNext
  refine wpAny_bind (wpAny_attempt (wpAny_callSpecial?_slot (name := Str.ofString "__next__") hit.typeIs RV.slot_rev_next
    (wpAny_call_entry RV.slot_rev_next hit.typeIs RV.entry_rev_next ?_ (RV.args_rev_next _))))
  unfold Builtin.«reversed.__next__»
  refine wpAny_bind (wpAny_of_eq (a := (Value.ref it, [])) rfl ?_)
  try dsimp only
  refine wpAny_bind (wpAny_field ho hd (x := .ref t) rfl ?_)
  refine wpAny_bind (wpAny_field ho hd (x := rawInt k) rfl ?_)
  show wpAny _ _ (if k < 0 then _ else _) _ _ s
  rw [if_pos hk]
  refine wpAny_bind (wpAny_rule ?_)
  refine wpAny_bind ?_
  refine wpAny_bind (m := setField (.ref it) 1 (rawInt (-1))) (wpAny_setField ho hd (by simp) ?_)
  refine wpAny_setField (Heap.get?_update_self _ ho (Obj.isFreed_of_fields (Obj.data_mapFields hd _))) (Obj.data_mapFields hd _) (by simp) ?_
  dsimp only
  have hx : Heap.ExtBut it s.heap ((s.heap.update it (Obj.mapFields fun x => x.setIfInBounds 1 (rawInt (-1)))).update it (Obj.mapFields fun x => x.setIfInBounds 0 Value.none)) := fun b ob hb e =>
    ((Heap.SameBut.update ..).2 b hb).trans (((Heap.SameBut.update ..).2 b hb).trans e)
  revert hx
  generalize (s.heap.update it (Obj.mapFields fun x => x.setIfInBounds 1 (rawInt (-1)))).update it (Obj.mapFields fun x => x.setIfInBounds 0 Value.none) = h2
  intro hx
  refine wpAny_bind ?_
  show wpAny _ _ (newExc (.type "StopIteration") [] >>= _) _ _ _
  refine wpAny_bind ?_
  simp only [newExc, newTuple]
  refine wpAny_bind (wpAny_newObj_type ?_ (by size_fits))
  refine wpAny_bind (m := firstArgMember _ _) (wpAny_of_eq (a := Value.none) (by first | rfl | (simp only [firstArgMember]; rfl)) ?_)
  refine wpAny_newObj_type ?_ (by size_fits)
  simp only [raiseNew]
  refine wpAny_bind (wpAny_handled ?_)
  first | rw [show A.in1.handled = none from hh] | rw [hh]
  refine wpAny_bind (wpAny_pure (wpAny_throw ?_))
  refine wpAny_bind (wpAny_isInstance (T := "StopIteration") (b := true) ⟨_, Heap.get?_push_size _ rfl, rfl⟩ isSubtype_stop ?_)
  exact wpAny_pure (hQ _ ((hx.push _).push _))
theorem iter_rev {it t : Addr} {i : Int} {Q : Value → Shared → Prop} (hit : IsTupRev s.heap it t i) (h : Q (.ref it) s) : wpAny (model prog w) A (pyIter (.ref it)) Q E s := by
  refine wpAny_pyIter_slot hit.typeIs RV.slot_rev_iter (wpAny_call_entry RV.slot_rev_iter hit.typeIs RV.entry_rev_iter ?_ (RV.args_rev_iter _))
  show wpAny _ _ (ret (.ref it)) _ _ s
  exact wpAny_pure ⟨_, rfl, "reversed", _, hit.typeIs, RV.slot_rev_next.lookup, h⟩
end
/-- a tuple of n items, walked from its end -/
def Itv (K : PySem.W.Frag) (a : Addr) (n : Nat) : It :=
  ⟨fun i H => ∃ xs x, SqT K H a xs ∧ xs.length = n ∧ xs.reverse[i]? = some x, fun i H x H' => H' = H ∧ ∀ xs, SqT K H a xs → xs.reverse[i]? = some x, fun i H => n ≤ i⟩
theorem turn_rev {P : Program} {w : World} {K : PySem.W.Frag} {tg : Expr} (a it : Addr) (n : Nat) : Turn P w K tg (Itv K a n) [it] it (fun i h => IsTupRev h it a ((n : Int) - 1 - (i : Int))) where
  mem := by simp
  obj := fun i h st b hb => by
    have e : b = it := by simpa using hb
    subst e
    obtain ⟨o, e, c, d⟩ := st
    exact ⟨o, e, fun v z => by rw [d] at z; cases z⟩
  keep := fun i h h' st k => st.at fun o e => k it (by simp) o e
  item := by
    intro X hP hw hK hc i pins s σ H E I hf st hg
    subst hP hw hK
    obtain ⟨xs, x, hq, hn, hx⟩ := hg
    obtain ⟨its, rv, p, hz⟩ := I.tuple hq
    have hi : i < n := by
      have := (List.getElem?_eq_some_iff.mp hx).1
      rw [List.length_reverse] at this
      omega
    rw [List.getElem?_reverse (by omega)] at hx
    obtain ⟨u, hu, ru⟩ := rv.get hx
    obtain ⟨f0, f1, f2, f3, f4, f5⟩ := hf it (by simp)
    have hl := rv.length
    have hs : sizeLine = 16777216 := sizeLine_eq
    have e : (n : Int) - 1 - (i : Int) = ((xs.length - 1 - i : Nat) : Int) := by omega
    have st := st
    rw [e] at st
    refine next_rev_item st p (x := u) (by simpa using hu) (by rw [List.size_toArray]; omega) fun h' tk st' sb => ?_
    have I1 : Inv X pins σ H { s with heap := h', toks := tk } := I.turned (fun b o hb e => (sb.2 b hb).trans e) f0 f1 f3 f4 f5
    obtain ⟨o, e1, c, d⟩ := id st'
    refine ⟨u, rfl, go_of (s := { s with heap := h', toks := tk }) e1 c d (by decide) ⟨x, H, I1, ru, ⟨rfl, fun ys hy => ?_⟩, ?_, fun b hb => (hf b hb).1⟩⟩
    · rw [I.tuple_inj hy hq, List.getElem?_reverse (by omega)]
      exact hx
    · have e2 : ((xs.length - 1 - i : Nat) : Int) - 1 = (n : Int) - 1 - ((i + 1 : Nat) : Int) := by omega
      rw [e2] at st'
      exact st'
  done := by
    intro X hP hw hK hc i pins s σ H E I hf st hg
    subst hP hw hK
    obtain ⟨f0, f1, f2, f3, f4, f5⟩ := hf it (by simp)
    have hg : n ≤ i := hg
    exact next_rev_end (I.ok.hd hc) st (by omega) fun h' eb => ⟨rfl, I.turned (t' := s.toks) (fun b o hb e => eb b o hb e) f0 f1 f3 f4 f5⟩
  self := fun _ _ _ _ _ st h => iter_rev st h
theorem itd_rev {K : PySem.W.Frag} {F : Hp} {a : Addr} {vs : List V} {ds : List D} (h : SqT K F a vs) (hd : DenL K F ds vs) : ItD K F (Itv K a vs.length) ds.reverse := fun F' H' i s1 s2 => by
  have hs := Same.tup s2 (Same.tup s1 h)
  refine ⟨fun d e => ?_, fun hl => by rw [List.length_reverse, hd.len] at hl; exact hl⟩
  obtain ⟨v, e1, q⟩ := hd.reverse.get e
  refine ⟨⟨vs, v, hs, rfl, e1⟩, fun x H'' y => ?_⟩
  obtain ⟨e2, y⟩ := y
  subst e2
  have := y vs hs
  rw [e1] at this
  cases this
  exact ⟨F', Ext.refl s2, Den.mono s1 q⟩
section
variable {X : Cx} {Xw : Nat → Hp → Prop} {tg e : Expr} {es : List Expr} {δ δi : DE} {δs : DA} {pos p : Pos}
def revI : List D → M (List D)
  | [.tup ds] => M.ret ds.reverse
  | _ => M.stuck
theorem pdi_rev (hg : Gl X "reversed") (hm : X.mg "reversed" = none) (ha : PDA X Xw [e] δs) (hs : starEach [e] X.env = [(false, eval e X.env)] := by rfl) : PDI X Xw tg (.Call (.Name "reversed" p) [e] [] pos) (fun ρ => δs ρ >>= revI) := by
  intro pins s σ H R I ⟨F, ρ, S, w⟩
  refine Call_ (ld_blt I hg hm boot_reversed (PyProof.Rows.callWith_type1 (thn (ha pos pins s σ H (fun vs H1 => ∃ F1 ds, Ext F H F1 H1 ∧ DenL X.K F1 ds vs ∧ WPI X.K Xw F1 H1 (revI ds) R) I ⟨F, ρ, S, WPI.bindL w⟩) fun us s1 ⟨vs, H1, I1, r1, F1, ds, e1, q1, w1⟩ => ?_) hs rfl))
  unfold revI at w1
  split at w1
  · rename_i ds
    obtain ⟨v, rfl, h1⟩ := q1.one
    obtain ⟨a, xs, rfl, h2, h3, h4⟩ := h1
    obtain ⟨u, rfl, r2⟩ := r1.one
    cases (show u = _ from r2)
    obtain ⟨its, rv, pt, hz⟩ := I1.tuple (SqT.of (K := X.K) (e1.fh _ _ h2))
    have hl := rv.length
    have hsl : sizeLine = 16777216 := sizeLine_eq
    refine call_reversed_tuple pt (by rw [List.size_toArray]; omega) fun tk => ?_
    have en : ((its.toArray.size : Nat) : Int) - 1 = (xs.length : Int) - 1 - ((0 : Nat) : Int) := by rw [List.size_toArray]; omega
    have st0 : IsTupRev (s1.heap.push (tupRev a (((its.toArray.size : Nat) : Int) - 1))) s1.heap.objs.size a ((xs.length : Int) - 1 - ((0 : Nat) : Int)) := ⟨_, Heap.get?_push_size _ rfl, rfl, by rw [← en]; rfl⟩
    refine iter_rev (s := { s1 with heap := s1.heap.push (tupRev a (((its.toArray.size : Nat) : Int) - 1)), toks := tk }) st0 ?_
    refine ⟨s1.heap.objs.size, [s1.heap.objs.size], _, _, H1, rfl, I1.kept (t' := tk) fun b o e => Heap.get?_push_of_some _ e, turn_rev a _ xs.length, st0, fun b hb => ?_, w1 _ _ _ (Ext.refl e1.fh) (itd_rev (SqT.of h2) h3)⟩
    have e : b = s1.heap.objs.size := by simpa using hb
    subst e
    exact I1.fpOk (Nat.le_refl _) (I1.hok.fresh (Nat.le_refl _))
  · exact w1.elim
/-! ### [f, g, h][i](e, ..) -/
def pickM (gs : List (List D → M D)) (m : Nat) (i : D) (ds : List D) : M D := match i with
  | .int k => match L2.atI gs k with
    | some g => if ds.length = m then g ds else M.stuck
    | none => M.stuck
  | _ => M.stuck
def okPick (gs : List (List D → M D)) : D → Bool
  | .int k => (L2.atI gs k).isSome
  | _ => false
def dPick (gs : List (List D → M D)) (m : Nat) (δi : DE) (δs : DA) : DE := fun ρ => δi ρ >>= fun i => if okPick gs i then δs ρ >>= fun ds => pickM gs m i ds else M.stuck
theorem pd_pick3 {cv : Nat → Value} {k0 k1 k2 m : Nat} {x0 x1 x2 : Str} {g0 g1 g2 : List D → M D} {ie : Expr} {p0 p1 p2 pl ps : Pos}
    (F0 : CallOk X.prog X.w X.K X.mg X.base cv k0 x0 m g0) (F1 : CallOk X.prog X.w X.K X.mg X.base cv k1 x1 m g1) (F2 : CallOk X.prog X.w X.K X.mg X.base cv k2 x2 m g2)
    (r0 : Room k0 X.A) (r1 : Room k1 X.A) (r2 : Room k2 X.A) (hg0 : Gl X x0) (hg1 : Gl X x1) (hg2 : Gl X x2) (hx : Passes (CX1 X.prog X.w cv) X (EX cv Xw)) (hi : PD X Xw ie δi)
    (ha : PDA X Xw (e :: es) δs) (hl : (e :: es).length = m) (hd0 : (x0 == ("__debug__" : Str)) = false := by decide) (hd1 : (x1 == ("__debug__" : Str)) = false := by decide) (hd2 : (x2 == ("__debug__" : Str)) = false := by decide)
    (he : starEach (e :: es) X.env = (false, eval e X.env) :: starEach es X.env := by rfl) (hpl : (backTo pos (starEach es X.env)).any (·.1) = false := by rfl) (hs : PlainIx ie := by intro _ _; rfl)
    (hse : eval (.Call (.Subscript (.List [.Name x0 p0, .Name x1 p1, .Name x2 p2] pl) ie ps) (e :: es) [] pos) X.env = (do callWith pos (← eval (.Subscript (.List [.Name x0 p0, .Name x1 p1, .Name x2 p2] pl) ie ps) X.env) [] (backTo pos (starEach (e :: es) X.env)) (backToKw pos (keywordEach [] X.env))) := by rfl) :
    PD X Xw (.Call (.Subscript (.List [.Name x0 p0, .Name x1 p1, .Name x2 p2] pl) ie ps) (e :: es) [] pos) (dPick [g0, g1, g2] m δi δs) := by
  obtain ⟨f0, fd0, ps0, a0, b0, c0, d0⟩ := F0
  obtain ⟨f1, fd1, ps1, a1, b1, c1, d1⟩ := F1
  obtain ⟨f2, fd2, ps2, a2, b2, c2, d2⟩ := F2
  have hf := pe_ix (X := X) (pos := ps) ix_list (pe_lst (pos := pl) (pa_cons (pe_glob (pos := p0) hg0 a0 (v := .ref f0) rfl hd0) (pa_cons (pe_glob (pos := p1) hg1 a1 (v := .ref f1) rfl hd1) (pa_cons (pe_glob (pos := p2) hg2 a2 (v := .ref f2) rfl hd2) pa_nil)))) hi hs
  intro pins s σ H Q I ⟨F, ρ, S, w⟩
  refine Call_ (thn (hf pins s σ H (fun v H1 => ∃ F1 kk gg f fd ps, Ext F H F1 H1 ∧ v = .ref f ∧ PySem.W.keepIn X.K (.ref f) = true ∧ Binds X.K fd ps [] ∧ FnOk X.prog X.w X.K X.mg X.base (CX1 X.prog X.w cv) kk f fd ps (spD X.K cv m gg) ∧ Room kk X.A ∧
      WP X.K Xw F1 H1 (δs ρ >>= fun ds => if ds.length = m then gg ds else M.stuck) Q) I ?_) fun v s1 ⟨x, H1, I1, r, F1, kk, gg, f, fd, ps, e1, hv, hk, hb, hF, hr, w1⟩ => ?_) hse
  · refine ⟨by show 3 ≤ sizeLine; rw [sizeLine_eq]; decide, fun q hq => ?_⟩
    have E0 : Ext F H F (upd H q (.lst [.ref f0, .ref f1, .ref f2])) := Ext.free S.fh hq
    refine ⟨F, ρ, S.ext E0, WP.mono (WP.bind (WP.ext E0 w)) fun v H1 ⟨F1, d, e1, q1, w1⟩ => ?_⟩
    split at w1
    · rename_i hok
      unfold okPick at hok
      split at hok
      · rename_i k
        cases (show v = _ from q1)
        have hq1 : H1 q = some (.lst [.ref f0, .ref f1, .ref f2]) := e1.hh _ _ upd_same
        have w1 : WP X.K Xw F1 H1 (δs ρ >>= fun ds => match L2.atI [g0, g1, g2] k with | some g => if ds.length = m then g ds else M.stuck | none => M.stuck) Q := w1
        obtain ⟨g, hg⟩ := Option.isSome_iff_exists.mp hok
        rw [hg] at w1
        unfold L2.atI at hg
        cases hj : ixN 3 k with
        | none =>
          have hg : (ixN 3 k).bind (fun j => [g0, g1, g2][j]?) = some g := hg
          rw [hj] at hg
          cases hg
        | some j =>
          have hg : (ixN 3 k).bind (fun j => [g0, g1, g2][j]?) = some g := hg
          rw [hj] at hg
          have at0 : ∀ v, [V.ref f0, .ref f1, .ref f2][j]? = some v → L2.atI [V.ref f0, .ref f1, .ref f2] k = some v := fun v hv => by
            show (ixN 3 k).bind (fun j => [V.ref f0, .ref f1, .ref f2][j]?) = some v
            rw [hj]
            exact hv
          have hg : [g0, g1, g2][j]? = some g := hg
          match j, hg with
          | 0, hg => cases hg; exact ⟨q, _, k, .ref f0, rfl, rfl, SqL.of hq1, at0 _ rfl, F1, k0, g0, f0, fd0, ps0, E0.trans e1, rfl, b0, c0, d0, r0, w1⟩
          | 1, hg => cases hg; exact ⟨q, _, k, .ref f1, rfl, rfl, SqL.of hq1, at0 _ rfl, F1, k1, g1, f1, fd1, ps1, E0.trans e1, rfl, b1, c1, d1, r1, w1⟩
          | 2, hg => cases hg; exact ⟨q, _, k, .ref f2, rfl, rfl, SqL.of hq1, at0 _ rfl, F1, k2, g2, f2, fd2, ps2, E0.trans e1, rfl, b2, c2, d2, r2, w1⟩
          | n + 3, hg => cases hg
      · cases hok
    · exact w1.elim
  · subst hv
    cases (show v = _ from r)
    refine PySem.W.callWith_K (h₀ := X.base) I1.ok.mod.kin hk (thn (ha pos pins s1 σ H1 (fun vs H2 => spD X.K cv m gg (vs ++ []) H2 Q (EX cv Xw)) I1 ⟨F1, ρ, S.ext e1, WPL.mono (WP.bindL w1) fun vs H2 ⟨F2, ds, e2, q2, w2⟩ => ?_⟩) fun us s2 ⟨vs, H2, I2, rr, q⟩ => ⟨I2.kIn, ?_⟩) he hpl
    · split at w2
      · rename_i hl1
        exact ⟨F2, ds, e2.fh, by simpa using q2, by rw [List.append_nil, ← q2.len]; exact hl1, WP.xw w2 fun n H h => ⟨n, rfl, h⟩⟩
      · exact w2.elim
    · exact run_fn hF hr hb .nil hx I2 rr q
end
end L3


set_option Elab.async false
set_option linter.all false
set_option maxRecDepth 100000
/-! THE PURE LAYER, 25: dicts whose keys are tuples, or ints and texts -/
namespace L3
open PySem PySem.Spec L2 SeqAt HT
open PyProof.Rows hiding St

section
variable {κ : Type} [DecidableEq κ]
end
section
variable {X : Cx} {Xw : Nat → Hp → Prop} {a b : Expr} {δa δb : DE} {pos : Pos}
theorem pd_le (ha : PD X Xw a δa) (hb : PD X Xw b δb) : PD X Xw (.Compare a [.LtE] [b] pos) (d2 gLe δa δb) := pd_cmp op_le (opd_I fun _ _ _ => rfl) ha hb
end
section
variable {X : Cx} {Xw : Nat → Hp → Prop} {a e : Expr} {δ δk δv : DE} {pos p pos' pos2 apos cpos : Pos} {x : Str} {i : Nat}
/-! ### a dict of one's own -/
end
end L3


set_option Elab.async false
set_option linter.all false
set_option maxRecDepth 100000
/-! The defs of the text of k01, walked over the pure layer. Printed by gen/gen.py but for the head. -/
namespace K1
open PySem PySem.Spec L2 L3
open PyProof.Rows hiding St
def top (i : Nat) : Stmt := PySem.Challenge.pw_cellpatches_k02_turns.main.body.getD i (.Pass ⟨0, 0, 0, 0⟩)
def clsN : List Str := ["NoBoard", "NoWays", "NoCell", "NoLetter", "NoNumber", "NoFit", "Nothing"]
def cAs (cA : Nat → Addr) : List Addr := [cA 0, cA 1, cA 2, cA 3, cA 4, cA 5, cA 6]
structure Bl (K : PySem.W.Frag) (mg : Str → Option Value) (base : Heap) (cv : Nat → Value) (cA : Nat → Addr) (Cp : Addr) : Prop where
  len : mg "len" = none
  isinstance : mg "isinstance" = none
  all : mg "all" = none
  range : mg "range" = none
  str : mg "str" = none
  tuple : mg "tuple" = none
  list : mg "list" = none
  ValueError : mg "ValueError" = none
  reversed : mg "reversed" = none
  LETTERS : ∃ t, mg "LETTERS" = some (.str "abcdef" t)
  MOST_ROWS : ∃ t, mg "MOST_ROWS" = some (.int 8 t)
  MOST_COLUMNS : ∃ t, mg "MOST_COLUMNS" = some (.int 8 t)
  own : ∀ n x, clsN[n]? = some x → OwnCls x (cA n) [.type "ValueError", .type "Exception", .type "BaseException", .type "object"] "ValueError.__new__" mg base
  cvE : ∀ n, cv n = .ref (cA n)
  top : mg "PatchError" = some (.ref Cp)
  exm : ∀ n, PySem.W.exmOne K (cv n) (.ref Cp) = some true
  exs : ∀ C ∈ cAs cA, ExcC K C
  kit : ∀ n m, n < 7 → m < 7 → PySem.W.kitOne K (.ref (cA n)) (.ref (cA m)) = some (decide (n = m))
  kitV : ∀ n, PySem.W.kitOne K (.ref (cA n)) (.type "ValueError") = some true
  hi : ∀ n, 6 ≤ n → cA n = cA 6
theorem Bl.cls {K : PySem.W.Frag} {mg : Str → Option Value} {base : Heap} {cv : Nat → Value} {cA : Nat → Addr} {Cp : Addr} (B : Bl K mg base cv cA Cp) (n : Nat) (x : Str) (h : clsN[n]? = some x) : mg x = some (.ref (cA n)) := (B.own n x h).bound
section
variable {P : Program} {w : World} {K : PySem.W.Frag} {mg : Str → Option Value} {base : Heap} {cv : Nat → Value} {cA : Nat → Addr} {Cp : Addr} {f : Addr}
abbrev s_is_letter : Stmt := top 13
def n_is_letter : List Str := ["thing"]
def p_is_letter : List Str := ["thing"]
theorem sc_is_letter : FnScope n_is_letter p_is_letter (defScope s_is_letter) := ⟨rfl, rfl, rfl, by decide +kernel, rfl, by decide +kernel, by decide +kernel⟩
def τ_is_letter : DS := (sRet (dAndV (dA isiM (aC (dV 0) (aC (dC (.raw (.ty "str"))) aN))) (dAndV (d2 gEq (dA lenM (aC (dV 0) aN)) (dC (.int 1))) (d2 (gInS false) (dV 0) (dC (.str "abcdef"))))))
def f_is_letter : List D → M D := runD 1 (τ_is_letter)
theorem ok_is_letter (B : Bl K mg base cv cA Cp)  (T : DefAt K mg "is_letter" s_is_letter f) : CallOk P w K mg base cv 1 "is_letter" 1 (f_is_letter) :=
  callOk_of (N := n_is_letter) (ps := p_is_letter) T sc_is_letter (fun _ _ _ _ _ _ us hl => match us, hl with | [_], _ => rfl) fun cdv A outer s H E hr =>
    (psd_one (psd_ret (pd_and (pd_isi rfl B.isinstance rfl (pda_cons (pd_var (pv 0)) (pda_cons (pd_ty rfl B.str rfl) pda_nil))) (pd_and (pd_eq hr.units (pd_len rfl B.len (pda_cons (pd_var (pv 0)) pda_nil)) pd_int) (pd_one (pd_inS (pd_var (pv 0)) (pd_strG rfl B.LETTERS (by decide))))))))
abbrev s_is_row : Stmt := top 14
def n_is_row : List Str := ["thing"]
def p_is_row : List Str := ["thing"]
theorem sc_is_row : FnScope n_is_row p_is_row (defScope s_is_row) := ⟨rfl, rfl, rfl, by decide +kernel, rfl, by decide +kernel, by decide +kernel⟩
def τ_is_row : DS := (sSeq (sIf (dOr (dNot (dTru (dA isiM (aC (dV 0) (aC (dC (.raw (.ty "str"))) aN))))) (dNot (tB' (chI (fun i j => decide (i ≤ j)) (fun i j => decide (i ≤ j)) (dC (.int 1)) (dA lenM (aC (dV 0) aN)) (dC (.int 8)))))) (sRet (dC (.bl false))) sNil) (sRet (dA allM (aC (dComp 0 (fun ρ => (dV 0) ρ >>= sgnM) dTrue (callF 1 f_is_letter (aC (dV 0) aN))) aN))))
def f_is_row : List D → M D := runD 1 (τ_is_row)
theorem ok_is_row (B : Bl K mg base cv cA Cp) (c_is_letter : CallOk P w K mg base cv 1 "is_letter" 1 f_is_letter) (T : DefAt K mg "is_row" s_is_row f) : CallOk P w K mg base cv 2 "is_row" 1 (f_is_row) :=
  callOk_of (N := n_is_row) (ps := p_is_row) T sc_is_row (fun _ _ _ _ _ _ us hl => match us, hl with | [_], _ => rfl) fun cdv A outer s H E hr =>
    (psd_cons (psd_if (PDW.t (pdw_or (pdt_not (pdt_tru (pd_isi rfl B.isinstance rfl (pda_cons (pd_var (pv 0)) (pda_cons (pd_ty rfl B.str rfl) pda_nil))))) (pdw_or1 (pdt_not (pt_chI op_le op_le pd_int (pd_len rfl B.len (pda_cons (pd_var (pv 0)) pda_nil)) (pd_intG rfl B.MOST_COLUMNS)))))) (psd_one (psd_ret pd_bl)) psd_nil) (psd_one (psd_ret (pd_all rfl rfl B.all rfl (pda_cons (pd_comp (tn := ["sign"]) (n := 0) (compSc_of (N := n_is_row) (osc := (defScope s_is_row)) rfl rfl (by decide +kernel)) rfl rfl (pdi_str (pd_var (pv 0))) (fun _ _ _ _ _ _ _ => tg_name (show List.Nodup ((["sign"] : List Str) ++ hideN ["sign"] n_is_row) by decide +kernel) rfl rfl) (fun _ _ _ _ _ _ => test_nil) (fun _ _ _ _ _ _ => (pd_c c_is_letter (hr.mono (by decide)) rfl passF (pda_cons (pd_var (pv 0)) pda_nil) rfl))) pda_nil)))))
abbrev s_is_board : Stmt := top 15
def n_is_board : List Str := ["thing"]
def p_is_board : List Str := ["thing"]
theorem sc_is_board : FnScope n_is_board p_is_board (defScope s_is_board) := ⟨rfl, rfl, rfl, by decide +kernel, rfl, by decide +kernel, by decide +kernel⟩
def τ_is_board : DS := (sSeq (sIf (dOr (dNot (dTru (dA isiM (aC (dV 0) (aC (dC (.raw (.ty "tuple"))) aN))))) (dNot (tB' (chI (fun i j => decide (i ≤ j)) (fun i j => decide (i ≤ j)) (dC (.int 1)) (dA lenM (aC (dV 0) aN)) (dC (.int 8)))))) (sRet (dC (.bl false))) sNil) (sSeq (sIf (dNot (dTru (dA allM (aC (dComp 0 (dItT (dV 0)) dTrue (callF 1 f_is_row (aC (dV 0) aN))) aN)))) (sRet (dC (.bl false))) sNil) (sRet (dA allM (aC (dComp 0 (dItT (dV 0)) dTrue (d2 gEq (dA lenM (aC (dV 0) aN)) (dA lenM (aC (d2 gIxT (dV 1) (dC (.int 0))) aN)))) aN)))))
def f_is_board : List D → M D := runD 1 (τ_is_board)
theorem ok_is_board (B : Bl K mg base cv cA Cp) (c_is_row : CallOk P w K mg base cv 2 "is_row" 1 f_is_row) (T : DefAt K mg "is_board" s_is_board f) : CallOk P w K mg base cv 3 "is_board" 1 (f_is_board) :=
  callOk_of (N := n_is_board) (ps := p_is_board) T sc_is_board (fun _ _ _ _ _ _ us hl => match us, hl with | [_], _ => rfl) fun cdv A outer s H E hr =>
    (psd_cons (psd_if (PDW.t (pdw_or (pdt_not (pdt_tru (pd_isi rfl B.isinstance rfl (pda_cons (pd_var (pv 0)) (pda_cons (pd_ty rfl B.tuple rfl) pda_nil))))) (pdw_or1 (pdt_not (pt_chI op_le op_le pd_int (pd_len rfl B.len (pda_cons (pd_var (pv 0)) pda_nil)) (pd_intG rfl B.MOST_ROWS)))))) (psd_one (psd_ret pd_bl)) psd_nil) (psd_cons (psd_if (pdt_not (pdt_tru (pd_all rfl rfl B.all rfl (pda_cons (pd_comp (tn := ["row"]) (n := 0) (compSc_of (N := n_is_board) (osc := (defScope s_is_board)) rfl rfl (by decide +kernel)) rfl rfl (pdi_tup (pd_var (pv 0))) (fun _ _ _ _ _ _ _ => tg_name (show List.Nodup ((["row"] : List Str) ++ hideN ["row"] n_is_board) by decide +kernel) rfl rfl) (fun _ _ _ _ _ _ => test_nil) (fun _ _ _ _ _ _ => (pd_c c_is_row (hr.mono (by decide)) rfl passF (pda_cons (pd_var (pv 0)) pda_nil) rfl))) pda_nil)))) (psd_one (psd_ret pd_bl)) psd_nil) (psd_one (psd_ret (pd_all rfl rfl B.all rfl (pda_cons (pd_comp (tn := ["row"]) (n := 0) (compSc_of (N := n_is_board) (osc := (defScope s_is_board)) rfl rfl (by decide +kernel)) rfl rfl (pdi_tup (pd_var (pv 0))) (fun _ _ _ _ _ _ _ => tg_name (show List.Nodup ((["row"] : List Str) ++ hideN ["row"] n_is_board) by decide +kernel) rfl rfl) (fun _ _ _ _ _ _ => test_nil) (fun _ _ _ _ _ _ => (pd_eq hr.units (pd_len rfl B.len (pda_cons (pd_var (pv 0)) pda_nil)) (pd_len rfl B.len (pda_cons (pd_ixT (pd_var (pv 1)) pd_int) pda_nil))))) pda_nil))))))
end
end K1


set_option Elab.async false
set_option linter.all false
set_option maxRecDepth 100000
namespace K1
open PySem PySem.Spec L2 L3
open PyProof.Rows hiding St
section
variable {P : Program} {w : World} {K : PySem.W.Frag} {mg : Str → Option Value} {base : Heap} {cv : Nat → Value} {cA : Nat → Addr} {Cp : Addr} {f : Addr}
abbrev s_need_board : Stmt := top 16
def n_need_board : List Str := ["thing"]
def p_need_board : List Str := ["thing"]
theorem sc_need_board : FnScope n_need_board p_need_board (defScope s_need_board) := ⟨rfl, rfl, rfl, by decide +kernel, rfl, by decide +kernel, by decide +kernel⟩
def τ_need_board : DS := (sIf (dNot (dTru (callF 1 f_is_board (aC (dV 0) aN)))) (fun ρ => (aC (dC (.str "a tuple of 1 to 8 texts of 1 to 8 letters, all as long, is asked for")) aN) ρ >>= fun ds => if ds.length ≤ lim then M.raise 0 else M.stuck) sNil)
def f_need_board : List D → M D := runD 1 (τ_need_board)
theorem ok_need_board (B : Bl K mg base cv cA Cp) (c_is_board : CallOk P w K mg base cv 3 "is_board" 1 f_is_board) (T : DefAt K mg "need_board" s_need_board f) : CallOk P w K mg base cv 4 "need_board" 1 (f_need_board) :=
  callOk_of (N := n_need_board) (ps := p_need_board) T sc_need_board (fun _ _ _ _ _ _ us hl => match us, hl with | [_], _ => rfl) fun cdv A outer s H E hr =>
    (psd_one (psd_if (pdt_not (pdt_tru (pd_c c_is_board (hr.mono (by decide)) rfl pass1 (pda_cons (pd_var (pv 0)) pda_nil) rfl))) (psd_one (psd_raise (B.own 0 "NoBoard" rfl) PySem.F.excBase_ValueError rfl rfl (B.cvE 0) made1 (pda_cons pd_str pda_nil))) psd_nil))
abbrev s_need_fit : Stmt := top 17
def n_need_fit : List Str := ["one", "other"]
def p_need_fit : List Str := ["one", "other"]
theorem sc_need_fit : FnScope n_need_fit p_need_fit (defScope s_need_fit) := ⟨rfl, rfl, rfl, by decide +kernel, rfl, by decide +kernel, by decide +kernel⟩
def τ_need_fit : DS := (sSeq (sIf (tB' (d2 gNe (dA lenM (aC (d2 gIxT (dV 0) (dC (.int 0))) aN)) (dA lenM (aC (d2 gIxT (dV 1) (dC (.int 0))) aN)))) (fun ρ => (aC (dC (.str "the boards are not as wide")) aN) ρ >>= fun ds => if ds.length ≤ lim then M.raise 5 else M.stuck) sNil) (sIf (tB' (d2 gGt (d2 gAdd (dA lenM (aC (dV 0) aN)) (dA lenM (aC (dV 1) aN))) (dC (.int 8)))) (fun ρ => (aC (dC (.str "the boards have more than 8 rows together")) aN) ρ >>= fun ds => if ds.length ≤ lim then M.raise 5 else M.stuck) sNil))
def f_need_fit : List D → M D := runD 2 (τ_need_fit)
theorem ok_need_fit (B : Bl K mg base cv cA Cp)  (T : DefAt K mg "need_fit" s_need_fit f) : CallOk P w K mg base cv 1 "need_fit" 2 (f_need_fit) :=
  callOk_of (N := n_need_fit) (ps := p_need_fit) T sc_need_fit (fun _ _ _ _ _ _ us hl => match us, hl with | [_, _], _ => rfl) fun cdv A outer s H E hr =>
    (psd_cons (psd_if (pt_ne hr.units (pd_len rfl B.len (pda_cons (pd_ixT (pd_var (pv 0)) pd_int) pda_nil)) (pd_len rfl B.len (pda_cons (pd_ixT (pd_var (pv 1)) pd_int) pda_nil))) (psd_one (psd_raise (B.own 5 "NoFit" rfl) PySem.F.excBase_ValueError rfl rfl (B.cvE 5) made1 (pda_cons pd_str pda_nil))) psd_nil) (psd_one (psd_if (pt_gt (pd_add (pd_len rfl B.len (pda_cons (pd_var (pv 0)) pda_nil)) (pd_len rfl B.len (pda_cons (pd_var (pv 1)) pda_nil))) (pd_intG rfl B.MOST_ROWS)) (psd_one (psd_raise (B.own 5 "NoFit" rfl) PySem.F.excBase_ValueError rfl rfl (B.cvE 5) made1 (pda_cons pd_str pda_nil))) psd_nil)))
abbrev s_column_from_below : Stmt := top 18
def n_column_from_below : List Str := ["board", "column"]
def p_column_from_below : List Str := ["board", "column"]
theorem sc_column_from_below : FnScope n_column_from_below p_column_from_below (defScope s_column_from_below) := ⟨rfl, rfl, rfl, by decide +kernel, rfl, by decide +kernel, by decide +kernel⟩
def τ_column_from_below : DS := (sRet (dM isS joinM (dC (.str "")) (aC (dComp 0 (fun ρ => (aC (dV 0) aN) ρ >>= revI) dTrue (d2 gIxS (dV 0) (dV 2))) aN)))
def f_column_from_below : List D → M D := runD 2 (τ_column_from_below)
theorem ok_column_from_below (B : Bl K mg base cv cA Cp)  (T : DefAt K mg "column_from_below" s_column_from_below f) : CallOk P w K mg base cv 1 "column_from_below" 2 (f_column_from_below) :=
  callOk_of (N := n_column_from_below) (ps := p_column_from_below) T sc_column_from_below (fun _ _ _ _ _ _ us hl => match us, hl with | [_, _], _ => rfl) fun cdv A outer s H E hr =>
    (psd_one (psd_ret (pd_join pd_str (pda_cons (pd_comp (tn := ["row"]) (n := 0) (compSc_of (N := n_column_from_below) (osc := (defScope s_column_from_below)) rfl rfl (by decide +kernel)) rfl rfl (pdi_rev rfl B.reversed (pda_cons (pd_var (pv 0)) pda_nil)) (fun _ _ _ _ _ _ _ => tg_name (show List.Nodup ((["row"] : List Str) ++ hideN ["row"] n_column_from_below) by decide +kernel) rfl rfl) (fun _ _ _ _ _ _ => test_nil) (fun _ _ _ _ _ _ => (pd_ixS (pd_var (pv 0)) (pd_var (pv 2))))) pda_nil))))
abbrev s_turned : Stmt := top 19
def n_turned : List Str := ["board"]
def p_turned : List Str := ["board"]
theorem sc_turned : FnScope n_turned p_turned (defScope s_turned) := ⟨rfl, rfl, rfl, by decide +kernel, rfl, by decide +kernel, by decide +kernel⟩
def τ_turned : DS := (sSeq (sExp (callF 1 f_need_board (aC (dV 0) aN))) (sRet (dA tupM1 (aC (dComp 0 (fun ρ => (aC (dA lenM (aC (d2 gIxT (dV 0) (dC (.int 0))) aN)) aN) ρ >>= rngM1) dTrue (callF 2 f_column_from_below (aC (dV 1) (aC (dV 0) aN)))) aN))))
def f_turned : List D → M D := runD 1 (τ_turned)
theorem ok_turned (B : Bl K mg base cv cA Cp) (c_need_board : CallOk P w K mg base cv 4 "need_board" 1 f_need_board) (c_column_from_below : CallOk P w K mg base cv 1 "column_from_below" 2 f_column_from_below) (T : DefAt K mg "turned" s_turned f) : CallOk P w K mg base cv 5 "turned" 1 (f_turned) :=
  callOk_of (N := n_turned) (ps := p_turned) T sc_turned (fun _ _ _ _ _ _ us hl => match us, hl with | [_], _ => rfl) fun cdv A outer s H E hr =>
    (psd_cons (psd_exp (pd_c c_need_board (hr.mono (by decide)) rfl pass1 (pda_cons (pd_var (pv 0)) pda_nil) rfl)) (psd_one (psd_ret (pd_tuple rfl B.tuple rfl (pda_cons (pd_comp (tn := ["column"]) (n := 0) (compSc_of (N := n_turned) (osc := (defScope s_turned)) rfl rfl (by decide +kernel)) rfl rfl (pdi_range1 rfl B.range (pda_cons (pd_len rfl B.len (pda_cons (pd_ixT (pd_var (pv 0)) pd_int) pda_nil)) pda_nil)) (fun _ _ _ _ _ _ _ => tg_name (show List.Nodup ((["column"] : List Str) ++ hideN ["column"] n_turned) by decide +kernel) rfl rfl) (fun _ _ _ _ _ _ => test_nil) (fun _ _ _ _ _ _ => (pd_c c_column_from_below (hr.mono (by decide)) rfl passF (pda_cons (pd_var (pv 1)) (pda_cons (pd_var (pv 0)) pda_nil)) rfl))) pda_nil)))))
end
end K1


set_option Elab.async false
set_option linter.all false
set_option maxRecDepth 100000
namespace K1
open PySem PySem.Spec L2 L3
open PyProof.Rows hiding St
section
variable {P : Program} {w : World} {K : PySem.W.Frag} {mg : Str → Option Value} {base : Heap} {cv : Nat → Value} {cA : Nat → Addr} {Cp : Addr} {f : Addr}
abbrev s_mirrored : Stmt := top 20
def n_mirrored : List Str := ["board"]
def p_mirrored : List Str := ["board"]
theorem sc_mirrored : FnScope n_mirrored p_mirrored (defScope s_mirrored) := ⟨rfl, rfl, rfl, by decide +kernel, rfl, by decide +kernel, by decide +kernel⟩
def τ_mirrored : DS := (sSeq (sExp (callF 1 f_need_board (aC (dV 0) aN))) (sRet (dA tupM1 (aC (dComp 0 (dItT (dV 0)) dTrue (dRev (dV 0) (d1 negM (dC (.int 1))))) aN))))
def f_mirrored : List D → M D := runD 1 (τ_mirrored)
theorem ok_mirrored (B : Bl K mg base cv cA Cp) (c_need_board : CallOk P w K mg base cv 4 "need_board" 1 f_need_board) (T : DefAt K mg "mirrored" s_mirrored f) : CallOk P w K mg base cv 5 "mirrored" 1 (f_mirrored) :=
  callOk_of (N := n_mirrored) (ps := p_mirrored) T sc_mirrored (fun _ _ _ _ _ _ us hl => match us, hl with | [_], _ => rfl) fun cdv A outer s H E hr =>
    (psd_cons (psd_exp (pd_c c_need_board (hr.mono (by decide)) rfl pass1 (pda_cons (pd_var (pv 0)) pda_nil) rfl)) (psd_one (psd_ret (pd_tuple rfl B.tuple rfl (pda_cons (pd_comp (tn := ["row"]) (n := 0) (compSc_of (N := n_mirrored) (osc := (defScope s_mirrored)) rfl rfl (by decide +kernel)) rfl rfl (pdi_tup (pd_var (pv 0))) (fun _ _ _ _ _ _ _ => tg_name (show List.Nodup ((["row"] : List Str) ++ hideN ["row"] n_mirrored) by decide +kernel) rfl rfl) (fun _ _ _ _ _ _ => test_nil) (fun _ _ _ _ _ _ => (pd_rev (pd_var (pv 0)) (pd_neg pd_int)))) pda_nil)))))
abbrev s_stacked : Stmt := top 21
def n_stacked : List Str := ["one", "other"]
def p_stacked : List Str := ["one", "other"]
theorem sc_stacked : FnScope n_stacked p_stacked (defScope s_stacked) := ⟨rfl, rfl, rfl, by decide +kernel, rfl, by decide +kernel, by decide +kernel⟩
def τ_stacked : DS := (sSeq (sExp (callF 1 f_need_board (aC (dV 0) aN))) (sSeq (sExp (callF 1 f_need_board (aC (dV 1) aN))) (sSeq (sExp (callF 2 f_need_fit (aC (dV 0) (aC (dV 1) aN)))) (sRet (d2 gCatT (dV 0) (dV 1))))))
def f_stacked : List D → M D := runD 2 (τ_stacked)
theorem ok_stacked (B : Bl K mg base cv cA Cp) (c_need_board : CallOk P w K mg base cv 4 "need_board" 1 f_need_board) (c_need_fit : CallOk P w K mg base cv 1 "need_fit" 2 f_need_fit) (T : DefAt K mg "stacked" s_stacked f) : CallOk P w K mg base cv 5 "stacked" 2 (f_stacked) :=
  callOk_of (N := n_stacked) (ps := p_stacked) T sc_stacked (fun _ _ _ _ _ _ us hl => match us, hl with | [_, _], _ => rfl) fun cdv A outer s H E hr =>
    (psd_cons (psd_exp (pd_c c_need_board (hr.mono (by decide)) rfl pass1 (pda_cons (pd_var (pv 0)) pda_nil) rfl)) (psd_cons (psd_exp (pd_c c_need_board (hr.mono (by decide)) rfl pass1 (pda_cons (pd_var (pv 1)) pda_nil) rfl)) (psd_cons (psd_exp (pd_c c_need_fit (hr.mono (by decide)) rfl pass1 (pda_cons (pd_var (pv 0)) (pda_cons (pd_var (pv 1)) pda_nil)) rfl)) (psd_one (psd_ret (pd_catT (pd_var (pv 0)) (pd_var (pv 1))))))))
abbrev s_letters : Stmt := top 22
def n_letters : List Str := ["board", "signs"]
def p_letters : List Str := ["board"]
theorem sc_letters : FnScope n_letters p_letters (defScope s_letters) := ⟨rfl, rfl, rfl, by decide +kernel, rfl, by decide +kernel, by decide +kernel⟩
def τ_letters : DS := (sSeq (sExp (callF 1 f_need_board (aC (dV 0) aN))) (sSeq (sSet 1 (dM isS joinM (dC (.str "")) (aC (dV 0) aN))) (sRet (dComp 0 (fun ρ => (dC (.str "abcdef")) ρ >>= sgnM) (tB' (d2 (gInS false) (dV 0) (dV 2))) (dA mkTup (aC (dV 0) (aC (dM isS cntSM (dV 2) (aC (dV 0) aN)) aN)))))))
def f_letters : List D → M D := runD 2 (τ_letters)
theorem ok_letters (B : Bl K mg base cv cA Cp) (c_need_board : CallOk P w K mg base cv 4 "need_board" 1 f_need_board) (T : DefAt K mg "letters" s_letters f) : CallOk P w K mg base cv 5 "letters" 1 (f_letters) :=
  callOk_of (N := n_letters) (ps := p_letters) T sc_letters (fun _ _ _ _ _ _ us hl => match us, hl with | [_], _ => rfl) fun cdv A outer s H E hr =>
    (psd_cons (psd_exp (pd_c c_need_board (hr.mono (by decide)) rfl pass1 (pda_cons (pd_var (pv 0)) pda_nil) rfl)) (psd_cons (psd_set sc_letters.nd rfl (by first | exact .inl rfl | exact .inr rfl) (pd_join pd_str (pda_cons (pd_var (pv 0)) pda_nil))) (psd_one (psd_ret (pd_comp (tn := ["letter"]) (n := 0) (compSc_of (N := n_letters) (osc := (defScope s_letters)) rfl rfl (by decide +kernel)) rfl rfl (pdi_str (pd_strG rfl B.LETTERS (by decide))) (fun _ _ _ _ _ _ _ => tg_name (show List.Nodup ((["letter"] : List Str) ++ hideN ["letter"] n_letters) by decide +kernel) rfl rfl) (fun _ _ _ _ _ _ => (test_one (pt_inS (pd_var (pv 0)) (pd_var (pv 2))))) (fun _ _ _ _ _ _ => (pd_tup (pda_cons (pd_var (pv 0)) (pda_cons (pd_cntS (pd_var (pv 2)) (pda_cons (pd_var (pv 0)) pda_nil)) pda_nil)))))))))
end
end K1


set_option Elab.async false
set_option linter.all false
set_option maxRecDepth 100000
namespace K1
open PySem PySem.Spec L2 L3
open PyProof.Rows hiding St
section
variable {P : Program} {w : World} {K : PySem.W.Frag} {mg : Str → Option Value} {base : Heap} {cv : Nat → Value} {cA : Nat → Addr} {Cp : Addr} {f : Addr}
abbrev s_law_cell : Stmt := top 24
def n_law_cell : List Str := ["_law_script", "_law_k"]
def p_law_cell : List Str := ["_law_script", "_law_k"]
theorem sc_law_cell : FnScope n_law_cell p_law_cell (defScope s_law_cell) := ⟨rfl, rfl, rfl, by decide +kernel, rfl, by decide +kernel, by decide +kernel⟩
def τ_law_cell : DS := (sSeq (sIf (tB' (d2 gEq (dV 0) (dA mkLst aN))) (sRet (d2 gMul (dC (.int 7)) (dV 1))) sNil) (sRet (d2 gAdd (d2 gIxP (dV 0) (d2 gMod (dV 1) (dA lenM (aC (dV 0) aN)))) (d2 gMul (dC (.int 6553)) (d2 gDiv (dV 1) (dA lenM (aC (dV 0) aN)))))))
def f_law_cell : List D → M D := runD 2 (τ_law_cell)
theorem ok_law_cell (B : Bl K mg base cv cA Cp)  (T : DefAt K mg "_law_cell" s_law_cell f) : CallOk P w K mg base cv 1 "_law_cell" 2 (f_law_cell) :=
  callOk_of (N := n_law_cell) (ps := p_law_cell) T sc_law_cell (fun _ _ _ _ _ _ us hl => match us, hl with | [_, _], _ => rfl) fun cdv A outer s H E hr =>
    (psd_cons (psd_if (pt_eq hr.units (pd_var (pv 0)) (pd_lst pda_nil)) (psd_one (psd_ret (pd_mul pd_int (pd_var (pv 1))))) psd_nil) (psd_one (psd_ret (pd_add (pd_ixP (pd_var (pv 0)) (pd_mod (pd_var (pv 1)) (pd_len rfl B.len (pda_cons (pd_var (pv 0)) pda_nil)))) (pd_mul pd_int (pd_div (pd_var (pv 1)) (pd_len rfl B.len (pda_cons (pd_var (pv 0)) pda_nil))))))))
abbrev s_law_drawn : Stmt := top 25
def n_law_drawn : List Str := ["_law_script", "_law_k", "_law_many", "_law_cell_here"]
def p_law_drawn : List Str := ["_law_script", "_law_k", "_law_many"]
theorem sc_law_drawn : FnScope n_law_drawn p_law_drawn (defScope s_law_drawn) := ⟨rfl, rfl, rfl, by decide +kernel, rfl, by decide +kernel, by decide +kernel⟩
def τ_law_drawn : DS := (sSeq (sSet 3 (d2 gMod (d2 gAdd (d2 gMul (d2 gMod (callF 2 f_law_cell (aC (dV 0) (aC (dV 1) aN))) (dC (.int 2147483563))) (dC (.int 69069))) (d2 gMul (dC (.int 104723)) (d2 gAdd (dV 1) (dC (.int 1))))) (dC (.int 2147483563)))) (sSeq (sSet 3 (d2 gMod (d2 gAdd (d2 gMul (dV 3) (dV 3)) (d2 gDiv (dV 3) (dC (.int 3)))) (dC (.int 2147483399)))) (sRet (d2 gMod (d2 gDiv (d2 gMod (d2 gAdd (d2 gMul (dV 3) (dV 3)) (d2 gDiv (dV 3) (dC (.int 7)))) (dC (.int 2147483647))) (dC (.int 11))) (dV 2)))))
def f_law_drawn : List D → M D := runD 4 (τ_law_drawn)
theorem ok_law_drawn (B : Bl K mg base cv cA Cp) (c_law_cell : CallOk P w K mg base cv 1 "_law_cell" 2 f_law_cell) (T : DefAt K mg "_law_drawn" s_law_drawn f) : CallOk P w K mg base cv 2 "_law_drawn" 3 (f_law_drawn) :=
  callOk_of (N := n_law_drawn) (ps := p_law_drawn) T sc_law_drawn (fun _ _ _ _ _ _ us hl => match us, hl with | [_, _, _], _ => rfl) fun cdv A outer s H E hr =>
    (psd_cons (psd_set sc_law_drawn.nd rfl (by first | exact .inl rfl | exact .inr rfl) (pd_mod (pd_add (pd_mul (pd_mod (pd_c c_law_cell (hr.mono (by decide)) rfl pass1 (pda_cons (pd_var (pv 0)) (pda_cons (pd_var (pv 1)) pda_nil)) rfl) pd_int) pd_int) (pd_mul pd_int (pd_add (pd_var (pv 1)) pd_int))) pd_int)) (psd_cons (psd_set sc_law_drawn.nd rfl (by first | exact .inl rfl | exact .inr rfl) (pd_mod (pd_add (pd_mul (pd_var (pv 3)) (pd_var (pv 3))) (pd_div (pd_var (pv 3)) pd_int)) pd_int)) (psd_one (psd_ret (pd_mod (pd_div (pd_mod (pd_add (pd_mul (pd_var (pv 3)) (pd_var (pv 3))) (pd_div (pd_var (pv 3)) pd_int)) pd_int) pd_int) (pd_var (pv 2)))))))
abbrev s_law_board : Stmt := top 26
def n_law_board : List Str := ["_law_script", "_law_at", "_law_most", "_law_rows", "_law_wide", "_law_alphabet", "_law_found", "_law_row", "_law_signs"]
def p_law_board : List Str := ["_law_script", "_law_at", "_law_most"]
theorem sc_law_board : FnScope n_law_board p_law_board (defScope s_law_board) := ⟨rfl, rfl, rfl, by decide +kernel, rfl, by decide +kernel, by decide +kernel⟩
def τ_law_board : DS := (sSeq (sSet 3 (d2 gAdd (dC (.int 1)) (callF 3 f_law_drawn (aC (dV 0) (aC (dV 1) (aC (dV 2) aN)))))) (sSeq (sSet 4 (d2 gAdd (dC (.int 1)) (callF 3 f_law_drawn (aC (dV 0) (aC (d2 gAdd (dV 1) (dC (.int 1))) (aC (dV 2) aN)))))) (sSeq (sSet 5 (d2 gIxL (dA mkLst (aC (dC (.str "ab")) (aC (dC (.str "abc")) (aC (dC (.str "aab")) (aC (dC (.str "fa")) aN))))) (callF 3 f_law_drawn (aC (dV 0) (aC (d2 gAdd (dV 1) (dC (.int 2))) (aC (dC (.int 4)) aN)))))) (sSeq (sSet 6 (dA mkTup aN)) (sSeq (fun ρ => noex ((sFor (putN 7) (fun ρ => (aC (dV 3) aN) ρ >>= rngM1) (sSeq (sSet 8 (dComp 0 (fun ρ => (aC (dV 4) aN) ρ >>= rngM1) dTrue (d2 gIxS (dV 6) (callF 3 f_law_drawn (aC (dV 1) (aC (d2 gAdd (d2 gAdd (d2 gAdd (dV 2) (dC (.int 3))) (d2 gMul (dC (.int 7)) (dV 8))) (dV 0)) (aC (dA lenM (aC (dV 6) aN)) aN))))))) (sSet 6 (d2 gCatT (dV 6) (dA mkTup (aC (dM isS joinM (dC (.str "")) (aC (dV 8) aN)) aN)))))) ρ)) (sRet (dV 6)))))))
def f_law_board : List D → M D := runD 9 (τ_law_board)
theorem ok_law_board (B : Bl K mg base cv cA Cp) (c_law_drawn : CallOk P w K mg base cv 2 "_law_drawn" 3 f_law_drawn) (T : DefAt K mg "_law_board" s_law_board f) : CallOk P w K mg base cv 3 "_law_board" 3 (f_law_board) :=
  callOk_of (N := n_law_board) (ps := p_law_board) T sc_law_board (fun _ _ _ _ _ _ us hl => match us, hl with | [_, _, _], _ => rfl) fun cdv A outer s H E hr =>
    (psd_cons (psd_set sc_law_board.nd rfl (by first | exact .inl rfl | exact .inr rfl) (pd_add pd_int (pd_c c_law_drawn (hr.mono (by decide)) rfl pass1 (pda_cons (pd_var (pv 0)) (pda_cons (pd_var (pv 1)) (pda_cons (pd_var (pv 2)) pda_nil))) rfl))) (psd_cons (psd_set sc_law_board.nd rfl (by first | exact .inl rfl | exact .inr rfl) (pd_add pd_int (pd_c c_law_drawn (hr.mono (by decide)) rfl pass1 (pda_cons (pd_var (pv 0)) (pda_cons (pd_add (pd_var (pv 1)) pd_int) (pda_cons (pd_var (pv 2)) pda_nil))) rfl))) (psd_cons (psd_set sc_law_board.nd rfl (by first | exact .inl rfl | exact .inr rfl) (pd_ixL (pd_lst (pda_cons pd_str (pda_cons pd_str (pda_cons pd_str (pda_cons pd_str pda_nil))))) (pd_c c_law_drawn (hr.mono (by decide)) rfl pass1 (pda_cons (pd_var (pv 0)) (pda_cons (pd_add (pd_var (pv 1)) pd_int) (pda_cons pd_int pda_nil))) rfl))) (psd_cons (psd_set sc_law_board.nd rfl (by first | exact .inl rfl | exact .inr rfl) (pd_tup pda_nil)) (psd_cons (psd_nox (psd_for PassesOwn.never rfl (pdi_range1 rfl B.range (pda_cons (pd_var (pv 3)) pda_nil)) (pg_name sc_law_board.nd rfl (by first | exact .inl rfl | exact .inr rfl)) put_name (psd_cons (psd_setComp (tn := ["_law_k"]) (n := 0) sc_law_board.nd rfl (by first | exact .inl rfl | exact .inr rfl) (compSc_of (N := n_law_board) (osc := (defScope s_law_board)) rfl rfl (by decide +kernel)) rfl rfl (pdi_range1 rfl B.range (pda_cons (pd_var (pv 4)) pda_nil)) (fun _ _ _ _ _ _ _ => tg_name (show List.Nodup ((["_law_k"] : List Str) ++ hideN ["_law_k"] n_law_board) by decide +kernel) rfl rfl) (fun _ _ _ _ _ _ => test_nil) (fun _ _ _ _ _ _ => (pd_ixS (pd_var (pv 6)) (pd_c c_law_drawn (hr.mono (by decide)) rfl passF (pda_cons (pd_var (pv 1)) (pda_cons (pd_add (pd_add (pd_add (pd_var (pv 2)) pd_int) (pd_mul pd_int (pd_var (pv 8)))) (pd_var (pv 0))) (pda_cons (pd_len rfl B.len (pda_cons (pd_var (pv 6)) pda_nil)) pda_nil))) rfl)))) (psd_one (psd_set sc_law_board.nd rfl (by first | exact .inl rfl | exact .inr rfl) (pd_catT (pd_var (pv 6)) (pd_tup (pda_cons (pd_join pd_str (pda_cons (pd_var (pv 8)) pda_nil)) pda_nil)))))))) (psd_one (psd_ret (pd_var (pv 6)))))))))
end
end K1


set_option Elab.async false
set_option linter.all false
set_option maxRecDepth 100000
namespace K1
open PySem PySem.Spec L2 L3
open PyProof.Rows hiding St
section
variable {P : Program} {w : World} {K : PySem.W.Frag} {mg : Str → Option Value} {base : Heap} {cv : Nat → Value} {cA : Nat → Addr} {Cp : Addr} {f : Addr}
abbrev s_law_cells : Stmt := top 27
def n_law_cells : List Str := ["_law_board_here", "_law_found", "_law_row"]
def p_law_cells : List Str := ["_law_board_here"]
theorem sc_law_cells : FnScope n_law_cells p_law_cells (defScope s_law_cells) := ⟨rfl, rfl, rfl, by decide +kernel, rfl, by decide +kernel, by decide +kernel⟩
def τ_law_cells : DS := (sSeq (sSet 1 (dA mkLst aN)) (sSeq (fun ρ => noex ((sFor (putN 2) (fun ρ => (aC (dA lenM (aC (dV 0) aN)) aN) ρ >>= rngM1) (sSet 1 (d2 gCatL (dV 1) (dComp 0 (fun ρ => (aC (dA lenM (aC (d2 gIxT (dV 0) (dC (.int 0))) aN)) aN) ρ >>= rngM1) dTrue (dA mkTup (aC (dV 3) (aC (dV 0) aN))))))) ρ)) (sRet (dV 1))))
def f_law_cells : List D → M D := runD 3 (τ_law_cells)
theorem ok_law_cells (B : Bl K mg base cv cA Cp)  (T : DefAt K mg "_law_cells" s_law_cells f) : CallOk P w K mg base cv 1 "_law_cells" 1 (f_law_cells) :=
  callOk_of (N := n_law_cells) (ps := p_law_cells) T sc_law_cells (fun _ _ _ _ _ _ us hl => match us, hl with | [_], _ => rfl) fun cdv A outer s H E hr =>
    (psd_cons (psd_set sc_law_cells.nd rfl (by first | exact .inl rfl | exact .inr rfl) (pd_lst pda_nil)) (psd_cons (psd_nox (psd_for PassesOwn.never rfl (pdi_range1 rfl B.range (pda_cons (pd_len rfl B.len (pda_cons (pd_var (pv 0)) pda_nil)) pda_nil)) (pg_name sc_law_cells.nd rfl (by first | exact .inl rfl | exact .inr rfl)) put_name (psd_one (psd_set sc_law_cells.nd rfl (by first | exact .inl rfl | exact .inr rfl) (pd_catL (pd_var (pv 1)) (pd_comp (tn := ["_law_column"]) (n := 0) (compSc_of (N := n_law_cells) (osc := (defScope s_law_cells)) rfl rfl (by decide +kernel)) rfl rfl (pdi_range1 rfl B.range (pda_cons (pd_len rfl B.len (pda_cons (pd_ixT (pd_var (pv 0)) pd_int) pda_nil)) pda_nil)) (fun _ _ _ _ _ _ _ => tg_name (show List.Nodup ((["_law_column"] : List Str) ++ hideN ["_law_column"] n_law_cells) by decide +kernel) rfl rfl) (fun _ _ _ _ _ _ => test_nil) (fun _ _ _ _ _ _ => (pd_tup (pda_cons (pd_var (pv 3)) (pda_cons (pd_var (pv 0)) pda_nil)))))))))) (psd_one (psd_ret (pd_var (pv 1))))))
end
end K1


set_option Elab.async false
set_option linter.all false
set_option maxRecDepth 100000
namespace K1
open PySem PySem.Spec L2 L3
open PyProof.Rows hiding St
section
variable {P : Program} {w : World} {K : PySem.W.Frag} {mg : Str → Option Value} {base : Heap} {cv : Nat → Value} {cA : Nat → Addr} {Cp : Addr} {f : Addr}
abbrev s_law_refused : Stmt := top 29
def n_law_refused : List Str := ["_law_e", "_law_flags"]
def p_law_refused : List Str := ["_law_e"]
theorem sc_law_refused : FnScope n_law_refused p_law_refused (defScope s_law_refused) := ⟨rfl, rfl, rfl, by decide +kernel, rfl, by decide +kernel, by decide +kernel⟩
def τ_law_refused (K : PySem.W.Frag) (cA : Nat → Addr) : DS := (sSeq (sSet 1 (dA mkLst (aC (dA (isxM K (cAs cA)) (aC (dV 0) (aC (dC (.raw (.ref (cA 0)))) aN))) (aC (dA (isxM K (cAs cA)) (aC (dV 0) (aC (dC (.raw (.ref (cA 1)))) aN))) (aC (dA (isxM K (cAs cA)) (aC (dV 0) (aC (dC (.raw (.ref (cA 2)))) aN))) aN))))) (sSeq (sSet 1 (d2 gCatL (dV 1) (dA mkLst (aC (dA (isxM K (cAs cA)) (aC (dV 0) (aC (dC (.raw (.ref (cA 3)))) aN))) (aC (dA (isxM K (cAs cA)) (aC (dV 0) (aC (dC (.raw (.ref (cA 4)))) aN))) (aC (dA (isxM K (cAs cA)) (aC (dV 0) (aC (dC (.raw (.ref (cA 5)))) aN))) aN)))))) (sSeq (sSet 1 (d2 gCatL (dV 1) (dA mkLst (aC (dA (isxM K (cAs cA)) (aC (dV 0) (aC (dC (.raw (.ref (cA 6)))) aN))) aN)))) (sSeq (sIf (dOr (tB' (d2 gNe (dM isLst cntM (dV 1) (aC (dC (.bl true)) aN)) (dC (.int 1)))) (dNot (dTru (dA (isxM K (cAs cA)) (aC (dV 0) (aC (dC (.raw (.ty "ValueError"))) aN)))))) (sRet (dA mkTup (aC (dC (.str "refused")) (aC (d1 negM (dC (.int 1))) aN)))) sNil) (sRet (dA mkTup (aC (dC (.str "refused")) (aC (dM isLst idxM (dV 1) (aC (dC (.bl true)) aN)) aN))))))))
def f_law_refused (K : PySem.W.Frag) (cA : Nat → Addr) : List D → M D := runD 2 (τ_law_refused K cA)
theorem ok_law_refused (B : Bl K mg base cv cA Cp)  (T : DefAt K mg "_law_refused" s_law_refused f) : CallOkH P w K mg base cv 1 "_law_refused" 1 (f_law_refused K cA) :=
  callOkH_of (N := n_law_refused) (ps := p_law_refused) T sc_law_refused (fun _ _ _ _ _ _ us hl => match us, hl with | [_], _ => rfl) fun cdv A outer s H hr =>
    (psd_cons (psd_set sc_law_refused.nd rfl (by first | exact .inl rfl | exact .inr rfl) (pd_lst (pda_cons (pd_isx B.exs rfl B.isinstance rfl (pda_cons (pd_var (pv 0)) (pda_cons (pd_clsG rfl (B.cls 0 "NoBoard" rfl)) pda_nil))) (pda_cons (pd_isx B.exs rfl B.isinstance rfl (pda_cons (pd_var (pv 0)) (pda_cons (pd_clsG rfl (B.cls 1 "NoWays" rfl)) pda_nil))) (pda_cons (pd_isx B.exs rfl B.isinstance rfl (pda_cons (pd_var (pv 0)) (pda_cons (pd_clsG rfl (B.cls 2 "NoCell" rfl)) pda_nil))) pda_nil))))) (psd_cons (psd_set sc_law_refused.nd rfl (by first | exact .inl rfl | exact .inr rfl) (pd_catL (pd_var (pv 1)) (pd_lst (pda_cons (pd_isx B.exs rfl B.isinstance rfl (pda_cons (pd_var (pv 0)) (pda_cons (pd_clsG rfl (B.cls 3 "NoLetter" rfl)) pda_nil))) (pda_cons (pd_isx B.exs rfl B.isinstance rfl (pda_cons (pd_var (pv 0)) (pda_cons (pd_clsG rfl (B.cls 4 "NoNumber" rfl)) pda_nil))) (pda_cons (pd_isx B.exs rfl B.isinstance rfl (pda_cons (pd_var (pv 0)) (pda_cons (pd_clsG rfl (B.cls 5 "NoFit" rfl)) pda_nil))) pda_nil)))))) (psd_cons (psd_set sc_law_refused.nd rfl (by first | exact .inl rfl | exact .inr rfl) (pd_catL (pd_var (pv 1)) (pd_lst (pda_cons (pd_isx B.exs rfl B.isinstance rfl (pda_cons (pd_var (pv 0)) (pda_cons (pd_clsG rfl (B.cls 6 "Nothing" rfl)) pda_nil))) pda_nil)))) (psd_cons (psd_if (PDW.t (pdw_or (pt_ne hr.units (pd_cnt (pd_var (pv 1)) (pda_cons pd_bl pda_nil)) pd_int) (pdw_or1 (pdt_not (pdt_tru (pd_isx B.exs rfl B.isinstance rfl (pda_cons (pd_var (pv 0)) (pda_cons (pd_ty rfl B.ValueError rfl) pda_nil)))))))) (psd_one (psd_ret (pd_tup (pda_cons pd_str (pda_cons (pd_neg pd_int) pda_nil))))) psd_nil) (psd_one (psd_ret (pd_tup (pda_cons pd_str (pda_cons (pd_idx (pd_var (pv 1)) (pda_cons pd_bl pda_nil)) pda_nil)))))))))
end
end K1


set_option Elab.async false
set_option linter.all false
set_option maxRecDepth 100000
namespace K1
open PySem PySem.Spec L2 L3
open PyProof.Rows hiding St
section
variable {P : Program} {w : World} {K : PySem.W.Frag} {mg : Str → Option Value} {base : Heap} {cv : Nat → Value} {cA : Nat → Addr} {Cp : Addr} {f : Addr}
/-- what the handler tells of an exception -/
def hdM (k : Nat) : M D := M.ret (.tup [.str "refused", .int ((min k 6 : Nat) : Int)])
theorem isx_val (B : Bl K mg base cv cA Cp) {n m : Nat} (hn : n < 7) (hm : m < 7) : isxM K (cAs cA) [.exc (cA n), .raw (.ref (cA m))] = M.ret (.bl (decide (n = m))) := by
  have h : cA n ∈ cAs cA := by
    unfold cAs
    match n, hn with
    | 0, _ => simp
    | 1, _ => simp
    | 2, _ => simp
    | 3, _ => simp
    | 4, _ => simp
    | 5, _ => simp
    | 6, _ => simp
  show (if cA n ∈ cAs cA then (match PySem.W.kitOne K (.ref (cA n)) (.ref (cA m)) with | some b => M.ret (D.bl b) | none => M.stuck) else M.stuck) = _
  rw [if_pos h, B.kit n m hn hm]
theorem isx_valV (B : Bl K mg base cv cA Cp) {n : Nat} (hn : n < 7) : isxM K (cAs cA) [.exc (cA n), .raw (.ty "ValueError")] = M.ret (.bl true) := by
  have h : cA n ∈ cAs cA := by
    unfold cAs
    match n, hn with
    | 0, _ => simp
    | 1, _ => simp
    | 2, _ => simp
    | 3, _ => simp
    | 4, _ => simp
    | 5, _ => simp
    | 6, _ => simp
  show (if cA n ∈ cAs cA then (match PySem.W.kitOne K (.ref (cA n)) (.type "ValueError") with | some b => M.ret (D.bl b) | none => M.stuck) else M.stuck) = _
  rw [if_pos h, B.kitV n]
theorem refused_val (B : Bl K mg base cv cA Cp) (k : Nat) : f_law_refused K cA [.exc (cA k)] = hdM k := by
  obtain ⟨n, hn, e1, e2⟩ : ∃ n, n < 7 ∧ cA k = cA n ∧ min k 6 = n := by
    by_cases h : 6 ≤ k
    · exact ⟨6, by omega, B.hi k h, by omega⟩
    · exact ⟨k, by omega, rfl, by omega⟩
  unfold hdM
  rw [e1, e2]
  clear e1 e2
  have hx : ∀ m (hm : m < 7), isxM K (cAs cA) [.exc (cA n), .raw (.ref (cA m))] = M.ret (.bl (decide (n = m))) := fun m hm => isx_val B hn hm
  have hv := isx_valV B hn
  have x0 := hx 0 (by decide)
  have x1 := hx 1 (by decide)
  have x2 := hx 2 (by decide)
  have x3 := hx 3 (by decide)
  have x4 := hx 4 (by decide)
  have x5 := hx 5 (by decide)
  have x6 := hx 6 (by decide)
  clear hx B
  match n, hn with
  | 0, _ => simp only [f_law_refused, τ_law_refused, hv, x0, x1, x2, x3, x4, x5, x6, runD, sSeq, sSet, dA, aC, aN, dV, dC, d1, d2, dM, dOr, dNot, dTru, sIf, sRet, sNil, tB', bind_ret, List.map_cons, List.map_nil, List.cons_append, List.nil_append, List.replicate, List.length_cons, List.length_nil, List.set_cons_zero, List.set_cons_succ, List.getElem?_cons_zero, List.getElem?_cons_succ, mkLst, Nat.reduceSub, Nat.reduceAdd, lim, Nat.reduceLeDiff, if_true, gCatL, isLst, cntM, bools, decide_true, decide_false, Nat.reduceEqDiff]; rfl
  | 1, _ => simp only [f_law_refused, τ_law_refused, hv, x0, x1, x2, x3, x4, x5, x6, runD, sSeq, sSet, dA, aC, aN, dV, dC, d1, d2, dM, dOr, dNot, dTru, sIf, sRet, sNil, tB', bind_ret, List.map_cons, List.map_nil, List.cons_append, List.nil_append, List.replicate, List.length_cons, List.length_nil, List.set_cons_zero, List.set_cons_succ, List.getElem?_cons_zero, List.getElem?_cons_succ, mkLst, Nat.reduceSub, Nat.reduceAdd, lim, Nat.reduceLeDiff, if_true, gCatL, isLst, cntM, bools, decide_true, decide_false, Nat.reduceEqDiff]; rfl
  | 2, _ => simp only [f_law_refused, τ_law_refused, hv, x0, x1, x2, x3, x4, x5, x6, runD, sSeq, sSet, dA, aC, aN, dV, dC, d1, d2, dM, dOr, dNot, dTru, sIf, sRet, sNil, tB', bind_ret, List.map_cons, List.map_nil, List.cons_append, List.nil_append, List.replicate, List.length_cons, List.length_nil, List.set_cons_zero, List.set_cons_succ, List.getElem?_cons_zero, List.getElem?_cons_succ, mkLst, Nat.reduceSub, Nat.reduceAdd, lim, Nat.reduceLeDiff, if_true, gCatL, isLst, cntM, bools, decide_true, decide_false, Nat.reduceEqDiff]; rfl
  | 3, _ => simp only [f_law_refused, τ_law_refused, hv, x0, x1, x2, x3, x4, x5, x6, runD, sSeq, sSet, dA, aC, aN, dV, dC, d1, d2, dM, dOr, dNot, dTru, sIf, sRet, sNil, tB', bind_ret, List.map_cons, List.map_nil, List.cons_append, List.nil_append, List.replicate, List.length_cons, List.length_nil, List.set_cons_zero, List.set_cons_succ, List.getElem?_cons_zero, List.getElem?_cons_succ, mkLst, Nat.reduceSub, Nat.reduceAdd, lim, Nat.reduceLeDiff, if_true, gCatL, isLst, cntM, bools, decide_true, decide_false, Nat.reduceEqDiff]; rfl
  | 4, _ => simp only [f_law_refused, τ_law_refused, hv, x0, x1, x2, x3, x4, x5, x6, runD, sSeq, sSet, dA, aC, aN, dV, dC, d1, d2, dM, dOr, dNot, dTru, sIf, sRet, sNil, tB', bind_ret, List.map_cons, List.map_nil, List.cons_append, List.nil_append, List.replicate, List.length_cons, List.length_nil, List.set_cons_zero, List.set_cons_succ, List.getElem?_cons_zero, List.getElem?_cons_succ, mkLst, Nat.reduceSub, Nat.reduceAdd, lim, Nat.reduceLeDiff, if_true, gCatL, isLst, cntM, bools, decide_true, decide_false, Nat.reduceEqDiff]; rfl
  | 5, _ => simp only [f_law_refused, τ_law_refused, hv, x0, x1, x2, x3, x4, x5, x6, runD, sSeq, sSet, dA, aC, aN, dV, dC, d1, d2, dM, dOr, dNot, dTru, sIf, sRet, sNil, tB', bind_ret, List.map_cons, List.map_nil, List.cons_append, List.nil_append, List.replicate, List.length_cons, List.length_nil, List.set_cons_zero, List.set_cons_succ, List.getElem?_cons_zero, List.getElem?_cons_succ, mkLst, Nat.reduceSub, Nat.reduceAdd, lim, Nat.reduceLeDiff, if_true, gCatL, isLst, cntM, bools, decide_true, decide_false, Nat.reduceEqDiff]; rfl
  | 6, _ => simp only [f_law_refused, τ_law_refused, hv, x0, x1, x2, x3, x4, x5, x6, runD, sSeq, sSet, dA, aC, aN, dV, dC, d1, d2, dM, dOr, dNot, dTru, sIf, sRet, sNil, tB', bind_ret, List.map_cons, List.map_nil, List.cons_append, List.nil_append, List.replicate, List.length_cons, List.length_nil, List.set_cons_zero, List.set_cons_succ, List.getElem?_cons_zero, List.getElem?_cons_succ, mkLst, Nat.reduceSub, Nat.reduceAdd, lim, Nat.reduceLeDiff, if_true, gCatL, isLst, cntM, bools, decide_true, decide_false, Nat.reduceEqDiff]; rfl
theorem hh (B : Bl K mg base cv cA Cp) (k : Nat) (ρ : Rho) (e : ρ[3]? = some (some (.fz (.exc (cA k))))) : sRet (callHF 1 (f_law_refused K cA) (aC (dV 3) aN)) ρ = (hdM k >>= fun d => M.ret (.rt d)) := by
  have h4 : dV 3 ρ = M.ret (.exc (cA k)) := by unfold dV; rw [e]
  show ((dV 3 ρ >>= fun x => aN ρ >>= fun xs => M.ret (x :: xs)) >>= fun ds => if ds.length = 1 then noex (noex (f_law_refused K cA ds)) else M.stuck) >>= _ = _
  rw [h4]
  show (if [D.exc (cA k)].length = 1 then noex (noex (f_law_refused K cA [.exc (cA k)])) else M.stuck) >>= _ = _
  rw [refused_val B k]
  rfl
abbrev s_law_told : Stmt := top 30
def n_law_told : List Str := ["_law_which", "_law_board_here", "_law_other", "_law_e"]
def p_law_told : List Str := ["_law_which", "_law_board_here", "_law_other"]
theorem sc_law_told : FnScope n_law_told p_law_told (defScope s_law_told) := ⟨rfl, rfl, rfl, by decide +kernel, rfl, by decide +kernel, by decide +kernel⟩
def τ_law_told : DS := (sTry (sSeq (sIf (tB' (d2 gEq (dV 0) (dC (.int 3)))) (sRet (callF 2 f_stacked (aC (dV 1) (aC (dV 2) aN)))) sNil) (sRet (dPick [f_turned, f_mirrored, f_letters] 1 (dV 0) (aC (dV 1) aN)))) fun k => noex (hdM k))
def f_law_told : List D → M D := runD 4 (τ_law_told)
theorem ok_law_told (B : Bl K mg base cv cA Cp) (c_stacked : CallOk P w K mg base cv 5 "stacked" 2 f_stacked) (c_law_refused : CallOkH P w K mg base cv 1 "_law_refused" 1 (f_law_refused K cA)) (c_turned : CallOk P w K mg base cv 5 "turned" 1 f_turned) (c_mirrored : CallOk P w K mg base cv 5 "mirrored" 1 f_mirrored) (c_letters : CallOk P w K mg base cv 5 "letters" 1 f_letters) (T : DefAt K mg "_law_told" s_law_told f) : CallOk P w K mg base cv 6 "_law_told" 3 (f_law_told) :=
  callOk_of (N := n_law_told) (ps := p_law_told) T sc_law_told (fun _ _ _ _ _ _ us hl => match us, hl with | [_, _, _], _ => rfl) fun cdv A outer s H E hr =>
    (psd_one (psd_try (i := 3) (hd := hdM) B.cvE sc_law_told.nd rfl rfl rfl B.top B.exm (fun pn Ec Xw' hp => (psd_cons (psd_if (pt_eq hr.units (pd_var (pv 0)) pd_int) (psd_one (psd_ret (pd_c c_stacked (hr.mono (by decide)) rfl hp (pda_cons (pd_var (pv 1)) (pda_cons (pd_var (pv 2)) pda_nil)) rfl))) psd_nil) (psd_one (psd_ret (pd_pick3 c_turned c_mirrored c_letters (hr.mono (by decide)) (hr.mono (by decide)) (hr.mono (by decide)) rfl rfl rfl hp (pd_var (pv 0)) (pda_cons (pd_var (pv 1)) pda_nil) rfl))))) (fun ea => (psd_one (psd_ret (callH_c c_law_refused (RoomH.of (hr.mono (by decide)) _) rfl (pda_cons (pd_var (pv 3)) pda_nil))))) (hh B)))
end
end K1


set_option Elab.async false
set_option linter.all false
set_option maxRecDepth 100000
namespace K1
open PySem PySem.Spec L2 L3
open PyProof.Rows hiding St
section
variable {P : Program} {w : World} {K : PySem.W.Frag} {mg : Str → Option Value} {base : Heap} {cv : Nat → Value} {cA : Nat → Addr} {Cp : Addr} {f : Addr}
abbrev s_law : Stmt := top 31
def n_law : List Str := ["_law_script", "_law_board_here", "_law_other", "_law_told_here", "_law_row", "_law_column", "_law_whole", "_law_due", "_law_fits", "_law_bad"]
def p_law : List Str := ["_law_script"]
theorem sc_law : FnScope n_law p_law (defScope s_law) := ⟨rfl, rfl, rfl, by decide +kernel, rfl, by decide +kernel, by decide +kernel⟩
def τ_law_0 : DS := (sSet 1 (callF 3 f_law_board (aC (dV 0) (aC (dC (.int 0)) (aC (dC (.int 5)) aN)))))
set_option maxHeartbeats 4000000 in
theorem st_law_0 (B : Bl K mg base cv cA Cp) (c_law_board : CallOk P w K mg base cv 3 "_law_board" 3 f_law_board) {cdv : Value} {A : Around} {outer : List Env} {s : Shared} {H : Hp} {E : XK} (hr : Room 6 (A.deeper (envOfC "law" (defScope s_law) s.heap.objs.size f cdv))) :
    Box (PSD (cxOf (CX1 P w cv) P w K mg base n_law "law" (defScope s_law) f cdv A outer s H E) (fun n H' => E (cv n) none H') ((defBody s_law).getD 0 (.Pass ⟨0, 0, 0, 0⟩)) τ_law_0) :=
  ⟨(psd_set sc_law.nd rfl (by first | exact .inl rfl | exact .inr rfl) (pd_c c_law_board (hr.mono (by decide)) rfl pass1 (pda_cons (pd_var (pv 0)) (pda_cons pd_int (pda_cons pd_int pda_nil))) rfl))⟩
def τ_law_1 : DS := (sSet 2 (callF 3 f_law_board (aC (dV 0) (aC (dC (.int 50)) (aC (dC (.int 5)) aN)))))
set_option maxHeartbeats 4000000 in
theorem st_law_1 (B : Bl K mg base cv cA Cp) (c_law_board : CallOk P w K mg base cv 3 "_law_board" 3 f_law_board) {cdv : Value} {A : Around} {outer : List Env} {s : Shared} {H : Hp} {E : XK} (hr : Room 6 (A.deeper (envOfC "law" (defScope s_law) s.heap.objs.size f cdv))) :
    Box (PSD (cxOf (CX1 P w cv) P w K mg base n_law "law" (defScope s_law) f cdv A outer s H E) (fun n H' => E (cv n) none H') ((defBody s_law).getD 1 (.Pass ⟨0, 0, 0, 0⟩)) τ_law_1) :=
  ⟨(psd_set sc_law.nd rfl (by first | exact .inl rfl | exact .inr rfl) (pd_c c_law_board (hr.mono (by decide)) rfl pass1 (pda_cons (pd_var (pv 0)) (pda_cons pd_int (pda_cons pd_int pda_nil))) rfl))⟩
def τ_law_2 : DS := (sIf (tB' (d2 gEq (callF 3 f_law_drawn (aC (dV 0) (aC (dC (.int 100)) (aC (dC (.int 2)) aN)))) (dC (.int 0)))) (sSet 2 (d2 gCatT (dRev (dV 1) (d1 negM (dC (.int 1)))) (dSl (dV 1) oN (oS (dC (.int 1)))))) sNil)
set_option maxHeartbeats 4000000 in
theorem st_law_2 (B : Bl K mg base cv cA Cp) (c_law_drawn : CallOk P w K mg base cv 2 "_law_drawn" 3 f_law_drawn) {cdv : Value} {A : Around} {outer : List Env} {s : Shared} {H : Hp} {E : XK} (hr : Room 6 (A.deeper (envOfC "law" (defScope s_law) s.heap.objs.size f cdv))) :
    Box (PSD (cxOf (CX1 P w cv) P w K mg base n_law "law" (defScope s_law) f cdv A outer s H E) (fun n H' => E (cv n) none H') ((defBody s_law).getD 2 (.Pass ⟨0, 0, 0, 0⟩)) τ_law_2) :=
  ⟨(psd_if (pt_eq hr.units (pd_c c_law_drawn (hr.mono (by decide)) rfl pass1 (pda_cons (pd_var (pv 0)) (pda_cons pd_int (pda_cons pd_int pda_nil))) rfl) pd_int) (psd_one (psd_set sc_law.nd rfl (by first | exact .inl rfl | exact .inr rfl) (pd_catT (pd_rev (pd_var (pv 1)) (pd_neg pd_int)) (pd_sl (pd_var (pv 1)) pdo_none (pdo_some pd_int))))) psd_nil)⟩
def τ_law_3 : DS := (sSet 3 (callF 3 f_law_told (aC (dC (.int 0)) (aC (dV 1) (aC (dC .non) aN)))))
set_option maxHeartbeats 4000000 in
theorem st_law_3 (B : Bl K mg base cv cA Cp) (c_law_told : CallOk P w K mg base cv 6 "_law_told" 3 f_law_told) {cdv : Value} {A : Around} {outer : List Env} {s : Shared} {H : Hp} {E : XK} (hr : Room 6 (A.deeper (envOfC "law" (defScope s_law) s.heap.objs.size f cdv))) :
    Box (PSD (cxOf (CX1 P w cv) P w K mg base n_law "law" (defScope s_law) f cdv A outer s H E) (fun n H' => E (cv n) none H') ((defBody s_law).getD 3 (.Pass ⟨0, 0, 0, 0⟩)) τ_law_3) :=
  ⟨(psd_set sc_law.nd rfl (by first | exact .inl rfl | exact .inr rfl) (pd_c c_law_told (hr.mono (by decide)) rfl pass1 (pda_cons pd_int (pda_cons (pd_var (pv 1)) (pda_cons pd_non pda_nil))) rfl))⟩
def τ_law_4 : DS := (sIf (dOr (dNot (dTru (callF 1 f_is_board (aC (dV 3) aN)))) (dOr (tB' (d2 gNe (dA lenM (aC (dV 3) aN)) (dA lenM (aC (d2 gIxT (dV 1) (dC (.int 0))) aN)))) (tB' (d2 gNe (dA lenM (aC (d2 gIxT (dV 3) (dC (.int 0))) aN)) (dA lenM (aC (dV 1) aN)))))) (sRet (dC (.bl false))) sNil)
set_option maxHeartbeats 4000000 in
theorem st_law_4 (B : Bl K mg base cv cA Cp) (c_is_board : CallOk P w K mg base cv 3 "is_board" 1 f_is_board) {cdv : Value} {A : Around} {outer : List Env} {s : Shared} {H : Hp} {E : XK} (hr : Room 6 (A.deeper (envOfC "law" (defScope s_law) s.heap.objs.size f cdv))) :
    Box (PSD (cxOf (CX1 P w cv) P w K mg base n_law "law" (defScope s_law) f cdv A outer s H E) (fun n H' => E (cv n) none H') ((defBody s_law).getD 4 (.Pass ⟨0, 0, 0, 0⟩)) τ_law_4) :=
  ⟨(psd_if (PDW.t (pdw_or (pdt_not (pdt_tru (pd_c c_is_board (hr.mono (by decide)) rfl pass1 (pda_cons (pd_var (pv 3)) pda_nil) rfl))) (pdw_or (pt_ne hr.units (pd_len rfl B.len (pda_cons (pd_var (pv 3)) pda_nil)) (pd_len rfl B.len (pda_cons (pd_ixT (pd_var (pv 1)) pd_int) pda_nil))) (pdw_or1 (pt_ne hr.units (pd_len rfl B.len (pda_cons (pd_ixT (pd_var (pv 3)) pd_int) pda_nil)) (pd_len rfl B.len (pda_cons (pd_var (pv 1)) pda_nil))))))) (psd_one (psd_ret pd_bl)) psd_nil)⟩
def τ_law_5 : DS := (fun ρ => noex ((sFor (putT 4 5) (dItL (callF 1 f_law_cells (aC (dV 1) aN))) (sIf (tB' (d2 gNe (d2 gIxS (d2 gIxT (dV 3) (dV 5)) (d2 gSub (d2 gSub (dA lenM (aC (dV 1) aN)) (dC (.int 1))) (dV 4))) (d2 gIxS (d2 gIxT (dV 1) (dV 4)) (dV 5)))) (sRet (dC (.bl false))) sNil)) ρ))
set_option maxHeartbeats 4000000 in
theorem st_law_5 (B : Bl K mg base cv cA Cp) (c_law_cells : CallOk P w K mg base cv 1 "_law_cells" 1 f_law_cells) {cdv : Value} {A : Around} {outer : List Env} {s : Shared} {H : Hp} {E : XK} (hr : Room 6 (A.deeper (envOfC "law" (defScope s_law) s.heap.objs.size f cdv))) :
    Box (PSD (cxOf (CX1 P w cv) P w K mg base n_law "law" (defScope s_law) f cdv A outer s H E) (fun n H' => E (cv n) none H') ((defBody s_law).getD 5 (.Pass ⟨0, 0, 0, 0⟩)) τ_law_5) :=
  ⟨(psd_nox (psd_for PassesOwn.never rfl (pdi_list (pd_c c_law_cells (hr.mono (by decide)) rfl passF (pda_cons (pd_var (pv 1)) pda_nil) rfl)) (pg_tup rfl (pgs_cons (pg_name sc_law.nd rfl (by first | exact .inl rfl | exact .inr rfl)) (pgs_cons (pg_name sc_law.nd rfl (by first | exact .inl rfl | exact .inr rfl)) pgs_nil))) put_pair (psd_one (psd_if (pt_ne hr.units (pd_ixS (pd_ixT (pd_var (pv 3)) (pd_var (pv 5))) (pd_sub (pd_sub (pd_len rfl B.len (pda_cons (pd_var (pv 1)) pda_nil)) pd_int) (pd_var (pv 4)))) (pd_ixS (pd_ixT (pd_var (pv 1)) (pd_var (pv 4))) (pd_var (pv 5)))) (psd_one (psd_ret pd_bl)) psd_nil))))⟩
def τ_law_6 : DS := (sIf (dOr (tB' (d2 gNe (callF 3 f_law_told (aC (dC (.int 1)) (aC (dV 1) (aC (dC .non) aN)))) (dA tupM1 (aC (dComp 0 (dItT (dV 1)) dTrue (dRev (dV 0) (d1 negM (dC (.int 1))))) aN)))) (tB' (d2 gNe (callF 1 f_mirrored (aC (callF 1 f_mirrored (aC (dV 1) aN)) aN)) (dV 1)))) (sRet (dC (.bl false))) sNil)
set_option maxHeartbeats 4000000 in
theorem st_law_6 (B : Bl K mg base cv cA Cp) (c_law_told : CallOk P w K mg base cv 6 "_law_told" 3 f_law_told) (c_mirrored : CallOk P w K mg base cv 5 "mirrored" 1 f_mirrored) {cdv : Value} {A : Around} {outer : List Env} {s : Shared} {H : Hp} {E : XK} (hr : Room 6 (A.deeper (envOfC "law" (defScope s_law) s.heap.objs.size f cdv))) :
    Box (PSD (cxOf (CX1 P w cv) P w K mg base n_law "law" (defScope s_law) f cdv A outer s H E) (fun n H' => E (cv n) none H') ((defBody s_law).getD 6 (.Pass ⟨0, 0, 0, 0⟩)) τ_law_6) :=
  ⟨(psd_if (PDW.t (pdw_or (pt_ne hr.units (pd_c c_law_told (hr.mono (by decide)) rfl pass1 (pda_cons pd_int (pda_cons (pd_var (pv 1)) (pda_cons pd_non pda_nil))) rfl) (pd_tuple rfl B.tuple rfl (pda_cons (pd_comp (tn := ["_law_row"]) (n := 0) (compSc_of (N := n_law) (osc := (defScope s_law)) rfl rfl (by decide +kernel)) rfl rfl (pdi_tup (pd_var (pv 1))) (fun _ _ _ _ _ _ _ => tg_name (show List.Nodup ((["_law_row"] : List Str) ++ hideN ["_law_row"] n_law) by decide +kernel) rfl rfl) (fun _ _ _ _ _ _ => test_nil) (fun _ _ _ _ _ _ => (pd_rev (pd_var (pv 0)) (pd_neg pd_int)))) pda_nil))) (pdw_or1 (pt_ne hr.units (pd_c c_mirrored (hr.mono (by decide)) rfl pass1 (pda_cons (pd_c c_mirrored (hr.mono (by decide)) rfl pass1 (pda_cons (pd_var (pv 1)) pda_nil) rfl) pda_nil) rfl) (pd_var (pv 1)))))) (psd_one (psd_ret pd_bl)) psd_nil)⟩
def τ_law_7 : DS := (sIf (tB' (d2 gNe (callF 1 f_turned (aC (callF 1 f_turned (aC (callF 1 f_turned (aC (dV 3) aN)) aN)) aN)) (dV 1))) (sRet (dC (.bl false))) sNil)
set_option maxHeartbeats 4000000 in
theorem st_law_7 (B : Bl K mg base cv cA Cp) (c_turned : CallOk P w K mg base cv 5 "turned" 1 f_turned) {cdv : Value} {A : Around} {outer : List Env} {s : Shared} {H : Hp} {E : XK} (hr : Room 6 (A.deeper (envOfC "law" (defScope s_law) s.heap.objs.size f cdv))) :
    Box (PSD (cxOf (CX1 P w cv) P w K mg base n_law "law" (defScope s_law) f cdv A outer s H E) (fun n H' => E (cv n) none H') ((defBody s_law).getD 7 (.Pass ⟨0, 0, 0, 0⟩)) τ_law_7) :=
  ⟨(psd_if (pt_ne hr.units (pd_c c_turned (hr.mono (by decide)) rfl pass1 (pda_cons (pd_c c_turned (hr.mono (by decide)) rfl pass1 (pda_cons (pd_c c_turned (hr.mono (by decide)) rfl pass1 (pda_cons (pd_var (pv 3)) pda_nil) rfl) pda_nil) rfl) pda_nil) rfl) (pd_var (pv 1))) (psd_one (psd_ret pd_bl)) psd_nil)⟩
def τ_law_8 : DS := (sSet 6 (dM isS joinM (dC (.str "")) (aC (dV 1) aN)))
set_option maxHeartbeats 4000000 in
theorem st_law_8 (B : Bl K mg base cv cA Cp)  {cdv : Value} {A : Around} {outer : List Env} {s : Shared} {H : Hp} {E : XK} (hr : Room 6 (A.deeper (envOfC "law" (defScope s_law) s.heap.objs.size f cdv))) :
    Box (PSD (cxOf (CX1 P w cv) P w K mg base n_law "law" (defScope s_law) f cdv A outer s H E) (fun n H' => E (cv n) none H') ((defBody s_law).getD 8 (.Pass ⟨0, 0, 0, 0⟩)) τ_law_8) :=
  ⟨(psd_set sc_law.nd rfl (by first | exact .inl rfl | exact .inr rfl) (pd_join pd_str (pda_cons (pd_var (pv 1)) pda_nil)))⟩
def τ_law_9 : DS := (sSet 7 (dComp 0 (fun ρ => (dC (.str "abcdef")) ρ >>= sgnM) (tB' (d2 (gInS false) (dV 0) (dV 7))) (dA mkTup (aC (dV 0) (aC (dM isS cntSM (dV 7) (aC (dV 0) aN)) aN)))))
set_option maxHeartbeats 4000000 in
theorem st_law_9 (B : Bl K mg base cv cA Cp)  {cdv : Value} {A : Around} {outer : List Env} {s : Shared} {H : Hp} {E : XK} (hr : Room 6 (A.deeper (envOfC "law" (defScope s_law) s.heap.objs.size f cdv))) :
    Box (PSD (cxOf (CX1 P w cv) P w K mg base n_law "law" (defScope s_law) f cdv A outer s H E) (fun n H' => E (cv n) none H') ((defBody s_law).getD 9 (.Pass ⟨0, 0, 0, 0⟩)) τ_law_9) :=
  ⟨(psd_setComp (tn := ["_law_letter"]) (n := 0) sc_law.nd rfl (by first | exact .inl rfl | exact .inr rfl) (compSc_of (N := n_law) (osc := (defScope s_law)) rfl rfl (by decide +kernel)) rfl rfl (pdi_str pd_str) (fun _ _ _ _ _ _ _ => tg_name (show List.Nodup ((["_law_letter"] : List Str) ++ hideN ["_law_letter"] n_law) by decide +kernel) rfl rfl) (fun _ _ _ _ _ _ => (test_one (pt_inS (pd_var (pv 0)) (pd_var (pv 7))))) (fun _ _ _ _ _ _ => (pd_tup (pda_cons (pd_var (pv 0)) (pda_cons (pd_cntS (pd_var (pv 7)) (pda_cons (pd_var (pv 0)) pda_nil)) pda_nil)))))⟩
def τ_law_10 : DS := (sIf (dOr (tB' (d2 gNe (callF 3 f_law_told (aC (dC (.int 2)) (aC (dV 1) (aC (dC .non) aN)))) (dV 7))) (tB' (d2 gNe (callF 3 f_law_told (aC (dC (.int 2)) (aC (dV 3) (aC (dC .non) aN)))) (dV 7)))) (sRet (dC (.bl false))) sNil)
set_option maxHeartbeats 4000000 in
theorem st_law_10 (B : Bl K mg base cv cA Cp) (c_law_told : CallOk P w K mg base cv 6 "_law_told" 3 f_law_told) {cdv : Value} {A : Around} {outer : List Env} {s : Shared} {H : Hp} {E : XK} (hr : Room 6 (A.deeper (envOfC "law" (defScope s_law) s.heap.objs.size f cdv))) :
    Box (PSD (cxOf (CX1 P w cv) P w K mg base n_law "law" (defScope s_law) f cdv A outer s H E) (fun n H' => E (cv n) none H') ((defBody s_law).getD 10 (.Pass ⟨0, 0, 0, 0⟩)) τ_law_10) :=
  ⟨(psd_if (PDW.t (pdw_or (pt_ne hr.units (pd_c c_law_told (hr.mono (by decide)) rfl pass1 (pda_cons pd_int (pda_cons (pd_var (pv 1)) (pda_cons pd_non pda_nil))) rfl) (pd_var (pv 7))) (pdw_or1 (pt_ne hr.units (pd_c c_law_told (hr.mono (by decide)) rfl pass1 (pda_cons pd_int (pda_cons (pd_var (pv 3)) (pda_cons pd_non pda_nil))) rfl) (pd_var (pv 7)))))) (psd_one (psd_ret pd_bl)) psd_nil)⟩
def τ_law_11 : DS := (sSet 8 (dAndV (d2 gEq (dA lenM (aC (d2 gIxT (dV 1) (dC (.int 0))) aN)) (dA lenM (aC (d2 gIxT (dV 2) (dC (.int 0))) aN))) (d2 gLe (d2 gAdd (dA lenM (aC (dV 1) aN)) (dA lenM (aC (dV 2) aN))) (dC (.int 8)))))
set_option maxHeartbeats 4000000 in
theorem st_law_11 (B : Bl K mg base cv cA Cp)  {cdv : Value} {A : Around} {outer : List Env} {s : Shared} {H : Hp} {E : XK} (hr : Room 6 (A.deeper (envOfC "law" (defScope s_law) s.heap.objs.size f cdv))) :
    Box (PSD (cxOf (CX1 P w cv) P w K mg base n_law "law" (defScope s_law) f cdv A outer s H E) (fun n H' => E (cv n) none H') ((defBody s_law).getD 11 (.Pass ⟨0, 0, 0, 0⟩)) τ_law_11) :=
  ⟨(psd_set sc_law.nd rfl (by first | exact .inl rfl | exact .inr rfl) (pd_and (pd_eq hr.units (pd_len rfl B.len (pda_cons (pd_ixT (pd_var (pv 1)) pd_int) pda_nil)) (pd_len rfl B.len (pda_cons (pd_ixT (pd_var (pv 2)) pd_int) pda_nil))) (pd_one (pd_le (pd_add (pd_len rfl B.len (pda_cons (pd_var (pv 1)) pda_nil)) (pd_len rfl B.len (pda_cons (pd_var (pv 2)) pda_nil))) pd_int))))⟩
def τ_law_12 : DS := (sIf (tB' (d2 gNe (callF 3 f_law_told (aC (dC (.int 3)) (aC (dV 1) (aC (dV 2) aN)))) (dIf (dTru (dV 8)) (d2 gCatT (dV 1) (dV 2)) (dA mkTup (aC (dC (.str "refused")) (aC (dC (.int 5)) aN)))))) (sRet (dC (.bl false))) sNil)
set_option maxHeartbeats 4000000 in
theorem st_law_12 (B : Bl K mg base cv cA Cp) (c_law_told : CallOk P w K mg base cv 6 "_law_told" 3 f_law_told) {cdv : Value} {A : Around} {outer : List Env} {s : Shared} {H : Hp} {E : XK} (hr : Room 6 (A.deeper (envOfC "law" (defScope s_law) s.heap.objs.size f cdv))) :
    Box (PSD (cxOf (CX1 P w cv) P w K mg base n_law "law" (defScope s_law) f cdv A outer s H E) (fun n H' => E (cv n) none H') ((defBody s_law).getD 12 (.Pass ⟨0, 0, 0, 0⟩)) τ_law_12) :=
  ⟨(psd_if (pt_ne hr.units (pd_c c_law_told (hr.mono (by decide)) rfl pass1 (pda_cons pd_int (pda_cons (pd_var (pv 1)) (pda_cons (pd_var (pv 2)) pda_nil))) rfl) (pd_if (pdt_tru (pd_var (pv 8))) (pd_catT (pd_var (pv 1)) (pd_var (pv 2))) (pd_tup (pda_cons pd_str (pda_cons pd_int pda_nil))))) (psd_one (psd_ret pd_bl)) psd_nil)⟩
def τ_law_13 : DS := (sSet 9 (d2 gIxL (dA mkLst (aC (dC .non) (aC (dA mkTup aN) (aC (dA lstM1 (aC (dV 1) aN)) (aC (d2 gCatT (dV 1) (dA mkTup (aC (dC (.str "")) aN))) (aC (dA mkTup (aC (dC (.str "g")) aN)) aN)))))) (callF 3 f_law_drawn (aC (dV 0) (aC (dC (.int 101)) (aC (dC (.int 5)) aN))))))
set_option maxHeartbeats 4000000 in
theorem st_law_13 (B : Bl K mg base cv cA Cp) (c_law_drawn : CallOk P w K mg base cv 2 "_law_drawn" 3 f_law_drawn) {cdv : Value} {A : Around} {outer : List Env} {s : Shared} {H : Hp} {E : XK} (hr : Room 6 (A.deeper (envOfC "law" (defScope s_law) s.heap.objs.size f cdv))) :
    Box (PSD (cxOf (CX1 P w cv) P w K mg base n_law "law" (defScope s_law) f cdv A outer s H E) (fun n H' => E (cv n) none H') ((defBody s_law).getD 13 (.Pass ⟨0, 0, 0, 0⟩)) τ_law_13) :=
  ⟨(psd_set sc_law.nd rfl (by first | exact .inl rfl | exact .inr rfl) (pd_ixL (pd_lst (pda_cons pd_non (pda_cons (pd_tup pda_nil) (pda_cons (pd_list rfl B.list rfl (pda_cons (pd_var (pv 1)) pda_nil)) (pda_cons (pd_catT (pd_var (pv 1)) (pd_tup (pda_cons pd_str pda_nil))) (pda_cons (pd_tup (pda_cons pd_str pda_nil)) pda_nil)))))) (pd_c c_law_drawn (hr.mono (by decide)) rfl pass1 (pda_cons (pd_var (pv 0)) (pda_cons pd_int (pda_cons pd_int pda_nil))) rfl)))⟩
def τ_law_14 : DS := (sIf (tB' (d2 gNe (dComp 0 (fun ρ => (aC (dC (.int 4)) aN) ρ >>= rngM1) dTrue (callF 3 f_law_told (aC (dV 0) (aC (dV 10) (aC (dC .non) aN))))) (d2 gRep (dA mkLst (aC (dA mkTup (aC (dC (.str "refused")) (aC (dC (.int 0)) aN))) aN)) (dC (.int 4))))) (sRet (dC (.bl false))) sNil)
set_option maxHeartbeats 4000000 in
theorem st_law_14 (B : Bl K mg base cv cA Cp) (c_law_told : CallOk P w K mg base cv 6 "_law_told" 3 f_law_told) {cdv : Value} {A : Around} {outer : List Env} {s : Shared} {H : Hp} {E : XK} (hr : Room 6 (A.deeper (envOfC "law" (defScope s_law) s.heap.objs.size f cdv))) :
    Box (PSD (cxOf (CX1 P w cv) P w K mg base n_law "law" (defScope s_law) f cdv A outer s H E) (fun n H' => E (cv n) none H') ((defBody s_law).getD 14 (.Pass ⟨0, 0, 0, 0⟩)) τ_law_14) :=
  ⟨(psd_if (pt_ne hr.units (pd_comp (tn := ["_law_which"]) (n := 0) (compSc_of (N := n_law) (osc := (defScope s_law)) rfl rfl (by decide +kernel)) rfl rfl (pdi_range1 rfl B.range (pda_cons pd_int pda_nil)) (fun _ _ _ _ _ _ _ => tg_name (show List.Nodup ((["_law_which"] : List Str) ++ hideN ["_law_which"] n_law) by decide +kernel) rfl rfl) (fun _ _ _ _ _ _ => test_nil) (fun _ _ _ _ _ _ => (pd_c c_law_told (hr.mono (by decide)) rfl passF (pda_cons (pd_var (pv 0)) (pda_cons (pd_var (pv 10)) (pda_cons pd_non pda_nil))) rfl))) (pd_rep (pd_lst (pda_cons (pd_tup (pda_cons pd_str (pda_cons pd_int pda_nil))) pda_nil)) pd_int)) (psd_one (psd_ret pd_bl)) psd_nil)⟩
def τ_law_15 : DS := (sRet (d2 gEq (callF 3 f_law_told (aC (dC (.int 3)) (aC (dV 1) (aC (dV 9) aN)))) (dA mkTup (aC (dC (.str "refused")) (aC (dC (.int 0)) aN)))))
set_option maxHeartbeats 4000000 in
theorem st_law_15 (B : Bl K mg base cv cA Cp) (c_law_told : CallOk P w K mg base cv 6 "_law_told" 3 f_law_told) {cdv : Value} {A : Around} {outer : List Env} {s : Shared} {H : Hp} {E : XK} (hr : Room 6 (A.deeper (envOfC "law" (defScope s_law) s.heap.objs.size f cdv))) :
    Box (PSD (cxOf (CX1 P w cv) P w K mg base n_law "law" (defScope s_law) f cdv A outer s H E) (fun n H' => E (cv n) none H') ((defBody s_law).getD 15 (.Pass ⟨0, 0, 0, 0⟩)) τ_law_15) :=
  ⟨(psd_ret (pd_eq hr.units (pd_c c_law_told (hr.mono (by decide)) rfl pass1 (pda_cons pd_int (pda_cons (pd_var (pv 1)) (pda_cons (pd_var (pv 9)) pda_nil))) rfl) (pd_tup (pda_cons pd_str (pda_cons pd_int pda_nil)))))⟩
def τ_law : DS := (sSeq τ_law_0 (sSeq τ_law_1 (sSeq τ_law_2 (sSeq τ_law_3 (sSeq τ_law_4 (sSeq τ_law_5 (sSeq τ_law_6 (sSeq τ_law_7 (sSeq τ_law_8 (sSeq τ_law_9 (sSeq τ_law_10 (sSeq τ_law_11 (sSeq τ_law_12 (sSeq τ_law_13 (sSeq τ_law_14 τ_law_15)))))))))))))))
def f_law : List D → M D := runD 10 τ_law
set_option maxHeartbeats 4000000 in
theorem okF_law {fd : FuncData} (B : Bl K mg base cv cA Cp) (c_law_board : CallOk P w K mg base cv 3 "_law_board" 3 f_law_board) (c_law_told : CallOk P w K mg base cv 6 "_law_told" 3 f_law_told) (c_law_cells : CallOk P w K mg base cv 1 "_law_cells" 1 f_law_cells) (c_law_drawn : CallOk P w K mg base cv 2 "_law_drawn" 3 f_law_drawn) (c_turned : CallOk P w K mg base cv 5 "turned" 1 f_turned) (c_is_board : CallOk P w K mg base cv 3 "is_board" 1 f_is_board) (c_mirrored : CallOk P w K mg base cv 5 "mirrored" 1 f_mirrored) (Fn : Fun K "law" "law" s_law f fd) : FnOk P w K mg base (CX1 P w cv) 7 f fd p_law (spD K cv 1 f_law) :=
  fn_D (N := n_law) (ps := p_law) (τ := τ_law) Fn sc_law fun cdv A outer s H E hr => by
    obtain ⟨hbx⟩ : Box (PSDs (cxOf (CX1 P w cv) P w K mg base n_law "law" (defScope s_law) f cdv A outer s H E) (fun n H' => E (cv n) none H') (defBody s_law) τ_law) := (bx_seq (st_law_0 B c_law_board hr) (bx_seq (st_law_1 B c_law_board hr) (bx_seq (st_law_2 B c_law_drawn hr) (bx_seq (st_law_3 B c_law_told hr) (bx_seq (st_law_4 B c_is_board hr) (bx_seq (st_law_5 B c_law_cells hr) (bx_seq (st_law_6 B c_law_told c_mirrored hr) (bx_seq (st_law_7 B c_turned hr) (bx_seq (st_law_8 B  hr) (bx_seq (st_law_9 B  hr) (bx_seq (st_law_10 B c_law_told hr) (bx_seq (st_law_11 B  hr) (bx_seq (st_law_12 B c_law_told hr) (bx_seq (st_law_13 B c_law_drawn hr) (bx_seq (st_law_14 B c_law_told hr) (bx_one (st_law_15 B c_law_told hr)))))))))))))))))
    assumption
end
end K1


set_option Elab.async false
set_option linter.all false
set_option maxRecDepth 100000
/-! The mathematics of k01, part 1: what is drawn -/
namespace K1
open PySem L2 L3
/-! ### values -/
theorem mkLst_ok {ds : List D} (h : ds.length ≤ lim) : mkLst ds = M.ret (.lst ds) := if_pos h
theorem limv : lim = 4096 := rfl
theorem atI_nat' {α : Type} {xs : List α} {i : Nat} {x : α} (h : xs[i]? = some x) : L2.atI xs (i : Int) = some x := by
  obtain ⟨hi, e⟩ := List.getElem?_eq_some_iff.mp h
  unfold L2.atI ixN
  rw [if_pos (Int.natCast_nonneg i), if_pos (by exact Int.ofNat_lt.mpr hi)]
  exact h
/-- f at arguments: a call -/
theorem callF_val {m : Nat} {g : List D → M D} {δs : DA} {ρ : Rho} {ds : List D} (h : δs ρ = M.ret ds) (hl : ds.length = m) : callF m g δs ρ = g ds := by
  unfold callF
  rw [h]
  exact if_pos hl
theorem aC_val {a : DE} {r : DA} {ρ : Rho} {x : D} {xs : List D} (h1 : a ρ = M.ret x) (h2 : r ρ = M.ret xs) : aC a r ρ = M.ret (x :: xs) := by
  unfold aC
  rw [h1, bind_ret, h2]
  rfl
theorem d2_val {g : D → D → M D} {a b : DE} {ρ : Rho} {x y : D} (h1 : a ρ = M.ret x) (h2 : b ρ = M.ret y) : d2 g a b ρ = g x y := by
  unfold d2
  rw [h1, bind_ret, h2]
  rfl
theorem dA_val {g : List D → M D} {a : DA} {ρ : Rho} {xs : List D} (h : a ρ = M.ret xs) : dA g a ρ = g xs := by
  unfold dA
  rw [h]
  rfl
theorem gMod_val {i j : Int} (h : 0 < j) : gMod (.int i) (.int j) = M.ret (.int (i % j)) := by
  show (if decide (0 < j) = true then _ else _) = _
  rw [if_pos (decide_eq_true h)]
theorem gDiv_val {i j : Int} (h : 0 < j) (h2 : j < 1073741824) : gDiv (.int i) (.int j) = M.ret (.int (i / j)) := by
  show (if decide (0 < j ∧ j < 1073741824) = true then _ else _) = _
  rw [if_pos (decide_eq_true ⟨h, h2⟩)]
theorem gMul_val {i j : Int} (h : (-(2 ^ 64) < i ∧ i < 2 ^ 64) ∨ (-(2 ^ 64) < j ∧ j < 2 ^ 64)) : gMul (.int i) (.int j) = M.ret (.int (i * j)) := by
  show (if decide _ = true then _ else _) = _
  rw [if_pos (decide_eq_true h)]
theorem gAdd_val {i j : Int} : gAdd (.int i) (.int j) = M.ret (.int (i + j)) := rfl
theorem gSub_val {i j : Int} : gSub (.int i) (.int j) = M.ret (.int (i - j)) := rfl
/-- _law_cell -/
theorem cell_val (ns : List Int) (hl : ns.length ≤ 63) (k : Nat) : ∃ v, f_law_cell [.scr ns, .int (k : Int)] = M.ret (.int v) := by
  cases ns with
  | nil =>
    refine ⟨7 * (k : Int), ?_⟩
    rfl
  | cons n r =>
    have hp : 0 < (n :: r).length := Nat.succ_pos _
    generalize e : (n :: r) = ns at *
    have he : eqF 6 (.scr ns) (.lst []) = some false := by subst e; rfl
    obtain ⟨y, hy⟩ : ∃ y, ns[k % ns.length]? = some y := ⟨_, List.getElem?_eq_getElem (Nat.mod_lt _ hp)⟩
    have hp' : (0 : Int) < (ns.length : Int) := by omega
    have h1 : gMod (.int (k : Int)) (.int (ns.length : Int)) = M.ret (.int ((k % ns.length : Nat) : Int)) := gMod_val hp'
    have h2 : gDiv (.int (k : Int)) (.int (ns.length : Int)) = M.ret (.int ((k : Int) / (ns.length : Int))) := gDiv_val hp' (by omega)
    have h3 : gIxP (.scr ns) (.int ((k % ns.length : Nat) : Int)) = M.ret (.int y) := by
      show (match L2.atI ns ((k % ns.length : Nat) : Int) with | some n => M.ret (D.int n) | none => M.stuck) = _
      rw [atI_nat' hy]
    have h4 : gMul (.int 6553) (.int ((k : Int) / (ns.length : Int))) = M.ret (.int (6553 * ((k : Int) / (ns.length : Int)))) := gMul_val (.inl ⟨by decide, by decide⟩)
    refine ⟨y + 6553 * ((k : Int) / (ns.length : Int)), ?_⟩
    simp only [f_law_cell, τ_law_cell, runD, sSeq, sIf, sRet, sNil, tB', d2, dV, dC, dA, aC, aN, mkLst, lenM, blM, gEq, he, bind_ret, h1, h2, h3, h4, List.map_cons, List.map_nil, List.cons_append, List.nil_append, List.length_cons, List.length_nil, List.getElem?_cons_zero, List.getElem?_cons_succ, limv, Nat.reduceAdd, Nat.zero_le, if_true, Bool.false_eq_true, if_false, gAdd, gI]
/-- _law_drawn -/
theorem drawn_val (ns : List Int) (hl : ns.length ≤ 63) (k m : Nat) (hm : 0 < m) : ∃ v : Nat, v < m ∧ f_law_drawn [.scr ns, .int (k : Int), .int (m : Int)] = M.ret (.int (v : Int)) := by
  obtain ⟨c, hc⟩ := cell_val ns hl k
  have b1 := Int.emod_nonneg (c % 2147483563 * 69069 + 104723 * ((k : Int) + 1)) (b := 2147483563) (by decide)
  have b2 := Int.emod_lt_of_pos (c % 2147483563 * 69069 + 104723 * ((k : Int) + 1)) (b := 2147483563) (by decide)
  generalize hx : (c % 2147483563 * 69069 + 104723 * ((k : Int) + 1)) % 2147483563 = x at b1 b2
  have b3 := Int.emod_nonneg (x * x + x / 3) (b := 2147483399) (by decide)
  have b4 := Int.emod_lt_of_pos (x * x + x / 3) (b := 2147483399) (by decide)
  generalize hy : (x * x + x / 3) % 2147483399 = y at b3 b4
  have m1 : gMul (.int (c % 2147483563)) (.int 69069) = _ := gMul_val (.inr ⟨by decide, by decide⟩)
  have m2 : gMul (.int 104723) (.int ((k : Int) + 1)) = _ := gMul_val (.inl ⟨by decide, by decide⟩)
  have m3 : gMul (.int x) (.int x) = _ := gMul_val (.inl ⟨by omega, by omega⟩)
  have m4 : gMul (.int y) (.int y) = _ := gMul_val (.inl ⟨by omega, by omega⟩)
  have hM : (0 : Int) < (m : Int) := Int.ofNat_lt.mpr hm
  have n1 := Int.emod_nonneg ((y * y + y / 7) % 2147483647 / 11) (b := (m : Int)) (by omega)
  have n2 := Int.emod_lt_of_pos ((y * y + y / 7) % 2147483647 / 11) hM
  have q1 : gMod (.int c) (.int 2147483563) = _ := gMod_val (by decide)
  have q2 : gMod (.int (c % 2147483563 * 69069 + 104723 * ((k : Int) + 1))) (.int 2147483563) = _ := gMod_val (by decide)
  have q3 : gDiv (.int x) (.int 3) = _ := gDiv_val (by decide) (by decide)
  have q4 : gMod (.int (x * x + x / 3)) (.int 2147483399) = _ := gMod_val (by decide)
  have q5 : gDiv (.int y) (.int 7) = _ := gDiv_val (by decide) (by decide)
  have q6 : gMod (.int (y * y + y / 7)) (.int 2147483647) = _ := gMod_val (by decide)
  have q7 : gDiv (.int ((y * y + y / 7) % 2147483647)) (.int 11) = _ := gDiv_val (by decide) (by decide)
  have q8 : gMod (.int ((y * y + y / 7) % 2147483647 / 11)) (.int (m : Int)) = _ := gMod_val hM
  refine ⟨((y * y + y / 7) % 2147483647 / 11 % (m : Int)).toNat, by omega, ?_⟩
  rw [Int.toNat_of_nonneg n1]
  rw [hx] at q2
  rw [hy] at q4
  simp only [f_law_drawn, τ_law_drawn, runD, sSeq, sSet, sRet, callF, d2, dV, dC, dA, aC, aN, bind_ret, hc, List.map_cons, List.map_nil, List.cons_append, List.nil_append, List.length_cons, List.length_nil, List.getElem?_cons_zero, List.getElem?_cons_succ, List.replicate, List.set_cons_zero, List.set_cons_succ, Nat.reduceAdd, Nat.reduceSub, if_true, gAdd_val, m1, m2, m3, m4, q1, q2, q3, q4, q5, q6, q7, q8]
end K1


set_option Elab.async false
set_option linter.all false
set_option maxRecDepth 100000
/-! The mathematics of k01, part 2: loops, and the board that is drawn -/
namespace K1
open PySem L2 L3
theorem noex_ret {α : Type} (a : α) : noex (M.ret a) = M.ret a := rfl
theorem forL_inv {put : D → Rho → Option Rho} {body : DS} {I : Nat → Rho → Prop} : ∀ (ds : List D) (i : Nat) (ρ : Rho), I i ρ →
    (∀ j d, ds[j]? = some d → ∀ ρ, I (i + j) ρ → ∃ ρ1 ρ2, put d ρ = some ρ1 ∧ body ρ1 = M.ret (.nx ρ2) ∧ I (i + j + 1) ρ2) → ∃ ρ', forL put body ds ρ = M.ret (.nx ρ') ∧ I (i + ds.length) ρ'
  | [], i, ρ, h, _ => ⟨ρ, rfl, h⟩
  | d :: ds, i, ρ, h, step => by
    obtain ⟨ρ1, ρ2, e1, e2, h2⟩ := step 0 d rfl ρ h
    obtain ⟨ρ', e3, h3⟩ := forL_inv (I := I) ds (i + 1) ρ2 h2 fun j d' hd ρ hI => by
      have := step (j + 1) d' hd ρ (by rw [show i + (j + 1) = i + 1 + j by omega]; exact hI)
      rw [show i + (j + 1) + 1 = i + 1 + j + 1 by omega] at this
      exact this
    refine ⟨ρ', ?_, ?_⟩
    · show (match put d ρ with | none => M.stuck | some ρ1 => body ρ1 >>= fun o => match o with | .nx ρ2 => forL put body ds ρ2 | .rt v => M.ret (.rt v)) = _
      rw [e1]
      show (body ρ1 >>= fun o => match o with | .nx ρ2 => forL put body ds ρ2 | .rt v => M.ret (.rt v)) = _
      rw [e2]
      exact e3
    · rw [show i + (d :: ds).length = i + 1 + ds.length by simp; omega]
      exact h3
theorem compL_all {f : D → M (Option D)} {Pr : D → Prop} : ∀ (ds : List D), (∀ d ∈ ds, ∃ y, f d = M.ret (some y) ∧ Pr y) → ∃ ys, compL f ds = M.ret ys ∧ ys.length = ds.length ∧ ∀ y ∈ ys, Pr y
  | [], _ => ⟨[], rfl, rfl, fun _ h => by cases h⟩
  | d :: ds, h => by
    obtain ⟨y, e, hy⟩ := h d (List.mem_cons_self ..)
    obtain ⟨ys, e2, hl, hp⟩ := compL_all ds fun d' hd => h d' (List.mem_cons_of_mem _ hd)
    refine ⟨y :: ys, ?_, by simp [hl], fun z hz => ?_⟩
    · rw [compL_cons, e, bind_ret, e2]
      rfl
    · cases hz with
      | head => exact hy
      | tail _ hz => exact hp z hz
theorem compL_map {f : D → M (Option D)} {g : D → D} : ∀ (ds : List D), (∀ d ∈ ds, f d = M.ret (some (g d))) → compL f ds = M.ret (ds.map g)
  | [], _ => rfl
  | d :: ds, h => by
    rw [compL_cons, h d (List.mem_cons_self ..), bind_ret, compL_map ds fun d' hd => h d' (List.mem_cons_of_mem _ hd)]
    rfl
/-! ### letters -/
def inL (x : Str) : Bool := !(Builtin.Str.occurrences ("abcdef" : Str) x 0 ("abcdef" : Str).length 1).isEmpty
structure Row (W : Nat) (r : Str) : Prop where
  len : r.length = W
  let' : ∀ c ∈ r.cps.toList, inL ⟨#[c]⟩ = true
structure Good (bd : List Str) (W : Nat) : Prop where
  r1 : 1 ≤ bd.length
  r5 : bd.length ≤ 5
  w1 : 1 ≤ W
  w5 : W ≤ 5
  rows : ∀ r ∈ bd, Row W r
theorem txts_all : ∀ (ys : List D), (∀ y ∈ ys, ∃ c, y = .str ⟨#[c]⟩ ∧ inL ⟨#[c]⟩ = true) → ∃ xs, txts ys = some xs ∧ xs.length = ys.length ∧ (xs.map (·.length)).sum = ys.length ∧ Row ys.length (catS xs)
  | [], _ => ⟨[], rfl, rfl, rfl, rfl, fun c h => by cases h⟩
  | y :: ys, h => by
    obtain ⟨c, e, hc⟩ := h y (List.mem_cons_self ..)
    obtain ⟨xs, e1, e2, e3, e4⟩ := txts_all ys fun z hz => h z (List.mem_cons_of_mem _ hz)
    subst e
    refine ⟨⟨#[c]⟩ :: xs, ?_, by simp [e2], ?_, ?_, fun z hz => ?_⟩
    · show (txts ys).map _ = _
      rw [e1]
      rfl
    · rw [List.map_cons, List.sum_cons, e3]
      show 1 + ys.length = _
      simp
      omega
    · show ((⟨#[c]⟩ : Str) ++ catS xs).length = _
      rw [str_len_append, e4.len]
      show 1 + ys.length = _
      simp
      omega
    · have hz : z ∈ ((⟨#[c]⟩ : Str) ++ catS xs).cps.toList := hz
      have : ((⟨#[c]⟩ : Str) ++ catS xs).cps = #[c] ++ (catS xs).cps := rfl
      rw [this] at hz
      have hz : z ∈ c :: (catS xs).cps.toList := by simpa using hz
      cases hz with
      | head => exact hc
      | tail _ hz => exact e4.let' z hz
theorem rngL_mem {lo : Int} {n : Nat} {d : D} (h : d ∈ rngL lo n) : ∃ i : Nat, i < n ∧ d = .int (lo + (i : Int)) := by
  unfold rngL at h
  obtain ⟨i, hi, e⟩ := List.mem_map.mp h
  exact ⟨i, List.mem_range.mp hi, e.symm⟩
theorem rngL_at {lo : Int} {n j : Nat} {d : D} (h : (rngL lo n)[j]? = some d) : j < n ∧ d = .int (lo + (j : Int)) := by
  unfold rngL at h
  rw [List.getElem?_map] at h
  by_cases hj : j < n
  · rw [List.getElem?_range hj] at h
    cases h
    exact ⟨hj, rfl⟩
  · rw [List.getElem?_eq_none (by simpa using hj)] at h
    cases h
theorem rngL_len (lo : Int) (n : Nat) : (rngL lo n).length = n := by simp [rngL]
end K1


set_option Elab.async false
set_option linter.all false
set_option maxRecDepth 100000
/-! The board that is drawn, from any place on -/
namespace K1
open PySem L2 L3
abbrev fz (d : D) : Option Sl := some (.fz d)
theorem compF0 {δe : DE} {ρ : Rho} {d : D} : compF 0 dTrue δe ρ d = (δe (fz d :: ρ) >>= fun y => M.ret (some y)) := rfl
theorem compFt {δt : DT} {δe : DE} {ρ : Rho} {d : D} : compF 0 δt δe ρ d = (δt (fz d :: ρ) >>= fun b => if b then δe (fz d :: ρ) >>= fun y => M.ret (some y) else M.ret none) := rfl
theorem sSeq_nx {a b : DS} {ρ ρ' : Rho} {o : M Out} (h : a ρ = M.ret (.nx ρ')) (h2 : b ρ' = o) : sSeq a b ρ = o := by
  unfold sSeq
  rw [h]
  exact h2
theorem sSeq_rt {a b : DS} {ρ : Rho} {d : D} (h : a ρ = M.ret (.rt d)) : sSeq a b ρ = M.ret (.rt d) := by
  unfold sSeq
  rw [h]
  rfl
theorem sSet_val {i : Nat} {δ : DE} {ρ : Rho} {d : D} (h : δ ρ = M.ret d) : sSet i δ ρ = M.ret (.nx (ρ.set i (fz d))) := by
  unfold sSet
  rw [h]
  rfl
theorem sIf_T {c : DT} {a b : DS} {ρ : Rho} {o : M Out} (h : c ρ = M.ret true) (h2 : a ρ = o) : sIf c a b ρ = o := by
  unfold sIf
  rw [h]
  exact h2
theorem sIf_F {c : DT} {a b : DS} {ρ : Rho} {o : M Out} (h : c ρ = M.ret false) (h2 : b ρ = o) : sIf c a b ρ = o := by
  unfold sIf
  rw [h]
  exact h2
theorem sRet_val {δ : DE} {ρ : Rho} {d : D} (h : δ ρ = M.ret d) : sRet δ ρ = M.ret (.rt d) := by
  unfold sRet
  rw [h]
  rfl
theorem sExp_val {δ : DE} {ρ : Rho} {d : D} (h : δ ρ = M.ret d) : sExp δ ρ = M.ret (.nx ρ) := by
  unfold sExp
  rw [h]
  rfl
theorem runD_rt {n : Nat} {τ : DS} {ds : List D} {d : D} (h : τ (ds.map (fun d => some (Sl.fz d)) ++ List.replicate (n - ds.length) none) = M.ret (.rt d)) : runD n τ ds = M.ret d := by
  unfold runD
  rw [h]
  rfl
theorem runD_nx {n : Nat} {τ : DS} {ds : List D} {ρ : Rho} (h : τ (ds.map (fun d => some (Sl.fz d)) ++ List.replicate (n - ds.length) none) = M.ret (.nx ρ)) : runD n τ ds = M.ret .non := by
  unfold runD
  rw [h]
  rfl
theorem runD_ex {n k : Nat} {τ : DS} {ds : List D} (h : τ (ds.map (fun d => some (Sl.fz d)) ++ List.replicate (n - ds.length) none) = M.raise k) : runD n τ ds = M.raise k := by
  unfold runD
  rw [h]
  rfl
theorem sFor_val {put : D → Rho → Option Rho} {δi : DA} {b : DS} {ρ : Rho} {ds : List D} {o : Out} (h : δi ρ = M.ret ds) (h2 : forL put b ds ρ = M.ret o) : noex (sFor put δi b ρ) = M.ret o := by
  unfold sFor
  rw [h, bind_ret, h2]
  rfl
theorem dComp_val {n : Nat} {δi : DA} {δt : DT} {δe : DE} {ρ : Rho} {ds ys : List D} (h : δi ρ = M.ret ds) (h2 : compL (compF n δt δe ρ) ds = M.ret ys) (h3 : ys.length ≤ lim) : dComp n δi δt δe ρ = M.ret (.lst ys) := by
  unfold dComp
  rw [h, bind_ret, h2, noex_ret, bind_ret, mkLst_ok h3]
theorem rngM1_val {n : Nat} (h : n ≤ 4096) : rngM1 [.int (n : Int)] = M.ret (rngL 0 n) := by
  show (if -4096 ≤ (n : Int) ∧ (n : Int) ≤ 4096 then M.ret (rngL 0 (n : Int).toNat) else M.stuck) = _
  rw [if_pos ⟨by omega, by omega⟩]
  rfl
structure Alpha (al : Str) : Prop where
  pos : 0 < al.length
  ok : ∀ c ∈ al.cps.toList, inL ⟨#[c]⟩ = true
theorem alphas : Alpha "ab" ∧ Alpha "abc" ∧ Alpha "aab" ∧ Alpha "fa" := by
  refine ⟨⟨by decide +kernel, ?_⟩, ⟨by decide +kernel, ?_⟩, ⟨by decide +kernel, ?_⟩, ⟨by decide +kernel, ?_⟩⟩ <;> decide +kernel
theorem gIxS_val {x : Str} {i : Nat} (h : i < x.length) : ∃ c, c ∈ x.cps.toList ∧ x.cps.toList[i]? = some c ∧ gIxS (.str x) (.int (i : Int)) = M.ret (.str ⟨#[c]⟩) := by
  have h : i < x.cps.toList.length := by rw [Array.length_toList]; exact h
  refine ⟨x.cps.toList[i], List.getElem_mem h, List.getElem?_eq_getElem h, ?_⟩
  show (match L2.atI x.cps.toList (i : Int) with | some c => M.ret (D.str ⟨#[c]⟩) | none => M.stuck) = _
  rw [atI_nat' (List.getElem?_eq_getElem h)]
abbrev brd (bd : List Str) : D := .tup (bd.map D.str)
abbrev sgn (at' mo : Nat) (ns : List Int) (W : Nat) (al : Str) (bd : List Str) (R : Nat) (x7 x8 : Option Sl) : Rho := [fz (.scr ns), fz (.int (at' : Int)), fz (.int (mo : Int)), fz (.int (R : Int)), fz (.int (W : Int)), fz (.str al), fz (brd bd), x7, x8]
def δsg : DE := dComp 0 (fun ρ => (aC (dV 4) aN) ρ >>= rngM1) dTrue (d2 gIxS (dV 6) (callF 3 f_law_drawn (aC (dV 1) (aC (d2 gAdd (d2 gAdd (d2 gAdd (dV 2) (dC (.int 3))) (d2 gMul (dC (.int 7)) (dV 8))) (dV 0)) (aC (dA lenM (aC (dV 6) aN)) aN)))))
theorem signs_val (at' mo : Nat) (ns : List Int) (hl : ns.length ≤ 63) (al : Str) (ha : Alpha al) (j W R : Nat) (hW : W ≤ 5) (bd : List Str) (x8 : Option Sl) :
    ∃ ys, δsg (sgn at' mo ns W al bd R (fz (.int (0 + (j : Int)))) x8) = M.ret (.lst ys) ∧ ys.length = W ∧ ∀ y ∈ ys, ∃ c, y = .str ⟨#[c]⟩ ∧ inL ⟨#[c]⟩ = true := by
  obtain ⟨ys, e, hl', hp⟩ := compL_all (f := compF 0 dTrue (d2 gIxS (dV 6) (callF 3 f_law_drawn (aC (dV 1) (aC (d2 gAdd (d2 gAdd (d2 gAdd (dV 2) (dC (.int 3))) (d2 gMul (dC (.int 7)) (dV 8))) (dV 0)) (aC (dA lenM (aC (dV 6) aN)) aN)))))
      (sgn at' mo ns W al bd R (fz (.int (0 + (j : Int)))) x8)) (Pr := fun y => ∃ c, y = .str ⟨#[c]⟩ ∧ inL ⟨#[c]⟩ = true) (rngL 0 W) fun d hd => by
    obtain ⟨i, hi, rfl⟩ := rngL_mem hd
    obtain ⟨v, hv, e⟩ := drawn_val ns hl (at' + 3 + 7 * j + i) al.length ha.pos
    obtain ⟨c, hc, _, e2⟩ := gIxS_val hv
    refine ⟨.str ⟨#[c]⟩, ?_, c, rfl, ha.ok c hc⟩
    rw [compF0]
    have k : (at' : Int) + 3 + 7 * (0 + (j : Int)) + (0 + (i : Int)) = ((at' + 3 + 7 * j + i : Nat) : Int) := by omega
    have m1 : gMul (.int 7) (.int (0 + (j : Int))) = M.ret (.int (7 * (0 + (j : Int)))) := gMul_val (.inl ⟨by decide, by decide⟩)
    simp only [callF, d2, dV, dC, dA, aC, aN, bind_ret, List.length_cons, List.length_nil, List.getElem?_cons_zero, List.getElem?_cons_succ, Nat.reduceAdd, if_true, gAdd_val, m1, k, lenM, e, e2]
  refine ⟨ys, dComp_val (rngM1_val (n := W) (by omega)) e (by rw [hl', rngL_len, limv]; omega), by rw [hl', rngL_len], hp⟩
def τct : DS := sSet 6 (d2 gCatT (dV 6) (dA mkTup (aC (dM isS joinM (dC (.str "")) (aC (dV 8) aN)) aN)))
theorem cat_val (at' mo : Nat) (ns : List Int) (W : Nat) (al : Str) (bd : List Str) (R : Nat) (x7 : Option Sl) (ys : List D) (hb : bd.length ≤ 5) (hy : ys.length ≤ 5) (s3 : ∀ y ∈ ys, ∃ c, y = .str ⟨#[c]⟩ ∧ inL ⟨#[c]⟩ = true) :
    ∃ r, Row ys.length r ∧ τct (sgn at' mo ns W al bd R x7 (fz (.lst ys))) = M.ret (.nx (sgn at' mo ns W al (bd ++ [r]) R x7 (fz (.lst ys)))) := by
  obtain ⟨xs, t1, t2, t3, t4⟩ := txts_all ys s3
  refine ⟨catS xs, t4, ?_⟩
  have jn : joinM (.str "") [.lst ys] = M.ret (.str (catS xs)) := by
    show (match txts ys with | some (xs : List Str) => if ("" : Str).length = 0 ∧ (xs.map (fun x : Str => x.length)).sum ≤ lim then M.ret (D.str (catS xs)) else M.stuck | none => M.stuck) = _
    rw [t1]
    show (if ("" : Str).length = 0 ∧ (xs.map (fun x : Str => x.length)).sum ≤ lim then M.ret (D.str (catS xs)) else M.stuck) = _
    rw [if_pos ⟨rfl, by rw [t3, limv]; omega⟩]
  have ct : gCatT (brd bd) (.tup [.str (catS xs)]) = M.ret (brd (bd ++ [catS xs])) := by
    show (if (bd.map D.str).length + 1 ≤ lim then M.ret (D.tup (bd.map D.str ++ [.str (catS xs)])) else M.stuck) = _
    rw [if_pos (by rw [List.length_map, limv]; omega)]
    simp [brd]
  refine (sSet_val (d := brd (bd ++ [catS xs])) ?_).trans rfl
  simp only [d2, dV, dC, dA, aC, aN, dM, isS, bind_ret, List.getElem?_cons_zero, List.getElem?_cons_succ, if_true, jn, mkTup, List.length_cons, List.length_nil, limv, Nat.reduceAdd, Nat.reduceLeDiff, ct]
theorem board_val (ns : List Int) (hl : ns.length ≤ 63) (at' mo : Nat) (m0 : 0 < mo) (m5 : mo ≤ 5) : ∃ bd W, Good bd W ∧ f_law_board [.scr ns, .int (at' : Int), .int (mo : Int)] = M.ret (brd bd) := by
  obtain ⟨r, hr, e1⟩ := drawn_val ns hl at' mo m0
  obtain ⟨c, hc, e2⟩ := drawn_val ns hl (at' + 1) mo m0
  obtain ⟨a, ha, e3⟩ := drawn_val ns hl (at' + 2) 4 (by decide)
  obtain ⟨al, hal, e4⟩ : ∃ al, Alpha al ∧ gIxL (.lst [.str "ab", .str "abc", .str "aab", .str "fa"]) (.int (a : Int)) = M.ret (.str al) := by
    obtain ⟨a1, a2, a3, a4⟩ := alphas
    match a, ha with
    | 0, _ => exact ⟨_, a1, rfl⟩
    | 1, _ => exact ⟨_, a2, rfl⟩
    | 2, _ => exact ⟨_, a3, rfl⟩
    | 3, _ => exact ⟨_, a4, rfl⟩
  have k1 : (1 : Int) + (r : Int) = ((r + 1 : Nat) : Int) := by omega
  have k2 : (1 : Int) + (c : Int) = ((c + 1 : Nat) : Int) := by omega
  have e1' : f_law_drawn [.scr ns, .int (at' : Int), .int (mo : Int)] = M.ret (.int (r : Int)) := e1
  have e2' : f_law_drawn [.scr ns, .int ((at' : Int) + 1), .int (mo : Int)] = M.ret (.int (c : Int)) := e2
  have e3' : f_law_drawn [.scr ns, .int ((at' : Int) + 2), .int 4] = M.ret (.int (a : Int)) := e3
  obtain ⟨ρ', f1, bd, x7, x8, f2, f3, f4⟩ := forL_inv (put := putN 7) (body := sSeq (sSet 8 δsg) τct)
    (I := fun i ρ => ∃ bd x7 x8, ρ = sgn at' mo ns (c + 1) al bd (r + 1) x7 x8 ∧ bd.length = i ∧ ∀ z ∈ bd, Row (c + 1) z)
    (rngL 0 (r + 1)) 0 (sgn at' mo ns (c + 1) al [] (r + 1) none none) ⟨[], none, none, rfl, rfl, fun _ h => by cases h⟩ fun j d hd ρ ⟨bd, x7, x8, hρ, hb, hw⟩ => by
      obtain ⟨hj, rfl⟩ := rngL_at hd
      subst hρ
      obtain ⟨ys, s1, s2, s3⟩ := signs_val at' mo ns hl al hal j (c + 1) (r + 1) (by omega) bd x8
      obtain ⟨rw', t1, t2⟩ := cat_val at' mo ns (c + 1) al bd (r + 1) (fz (.int (0 + (j : Int)))) ys (by omega) (by omega) s3
      refine ⟨_, _, rfl, sSeq_nx (sSet_val s1) t2, bd ++ [rw'], _, _, rfl, by simp [hb], fun z hz => ?_⟩
      rcases List.mem_append.mp hz with h | h
      · exact hw z h
      · have h : z = rw' := by simpa using h
        subst h
        rw [s2] at t1
        exact t1
  refine ⟨bd, c + 1, ⟨by rw [f3, rngL_len]; omega, by rw [f3, rngL_len]; omega, by omega, by omega, f4⟩, ?_⟩
  subst f2
  refine runD_rt ?_
  refine sSeq_nx (sSet_val (d := .int ((r + 1 : Nat) : Int)) ?_) ?_
  · simp only [callF, d2, dV, dC, aC, aN, bind_ret, List.map_cons, List.map_nil, List.cons_append, List.nil_append, List.length_cons, List.length_nil, List.getElem?_cons_zero, List.getElem?_cons_succ, Nat.reduceAdd, if_true, gAdd_val, e1', k1]
  refine sSeq_nx (sSet_val (d := .int ((c + 1 : Nat) : Int)) ?_) ?_
  · simp only [callF, d2, dV, dC, aC, aN, bind_ret, List.map_cons, List.map_nil, List.cons_append, List.nil_append, List.length_cons, List.length_nil, List.replicate, List.set_cons_zero, List.set_cons_succ, Nat.reduceSub, List.getElem?_cons_zero, List.getElem?_cons_succ, Nat.reduceAdd, if_true, gAdd_val, e2', k2]
  refine sSeq_nx (sSet_val (d := .str al) ?_) ?_
  · simp only [callF, d2, dV, dC, dA, aC, aN, bind_ret, List.map_cons, List.map_nil, List.cons_append, List.nil_append, List.length_cons, List.length_nil, List.replicate, List.set_cons_zero, List.set_cons_succ, Nat.reduceSub, List.getElem?_cons_zero, List.getElem?_cons_succ, Nat.reduceAdd, if_true, gAdd_val, e3', mkLst, limv, Nat.reduceLeDiff, e4]
  refine sSeq_nx (sSet_val (d := .tup []) rfl) ?_
  refine sSeq_nx (sFor_val (rngM1_val (n := r + 1) (by omega)) f1) ?_
  exact sRet_val rfl
end K1


set_option Elab.async false
set_option linter.all false
set_option maxRecDepth 100000
/-! The mathematics of k01, part 4: what is a letter, a row, a board -/
namespace K1
open PySem L2 L3
def Plain : D → Prop
  | .non | .bl _ | .int _ | .str _ | .tup _ | .lst _ => True
  | _ => False
def isStr : D → Bool
  | .str _ => true
  | _ => false
def isTup : D → Bool
  | .tup _ => true
  | _ => false
theorem isi_str {d : D} (h : Plain d) : isiM [d, .raw (.ty "str")] = M.ret (.bl (isStr d)) := by
  cases d <;> first | rfl | exact h.elim
theorem isi_tup {d : D} (h : Plain d) : isiM [d, .raw (.ty "tuple")] = M.ret (.bl (isTup d)) := by
  cases d <;> first | rfl | exact h.elim
def letD : D → Bool
  | .str x => (x.length == 1) && inL x
  | _ => false
theorem dV_val {ρ : Rho} {i : Nat} {d : D} (h : ρ[i]? = some (fz d)) : dV i ρ = M.ret d := by
  unfold dV
  rw [h]
theorem eq_int (i j : Int) : gEq (.int i) (.int j) = M.ret (.bl (i == j)) := rfl
theorem ne_int (i j : Int) : gNe (.int i) (.int j) = M.ret (.bl (!(i == j))) := rfl
theorem len_str (x : Str) : lenM [.str x] = M.ret (.int (x.length : Int)) := rfl
theorem in_str (x : Str) : gInS false (.str x) (.str "abcdef") = M.ret (.bl (inL x)) := rfl
theorem natEq (a b : Nat) : ((a : Int) == (b : Int)) = (a == b) := by
  by_cases h : a = b
  · subst h; simp
  · have h2 : ¬ (a : Int) = (b : Int) := by omega
    rw [beq_eq_false_iff_ne.mpr h, beq_eq_false_iff_ne.mpr h2]
theorem let_val {d : D} (h : Plain d) {i : Nat} {ρ : Rho} (hρ : ρ[i]? = some (fz d)) :
    dAndV (dA isiM (aC (dV i) (aC (dC (.raw (.ty "str"))) aN))) (dAndV (d2 gEq (dA lenM (aC (dV i) aN)) (dC (.int 1))) (d2 (gInS false) (dV i) (dC (.str "abcdef")))) ρ = M.ret (.bl (letD d)) := by
  have hv := dV_val hρ
  have e1 := natEq
  cases d with
  | str x =>
    have k : ((x.length : Int) == 1) = (x.length == 1) := natEq x.length 1
    simp only [dAndV, dA, aC, aN, dC, d2, hv, bind_ret, isi_str h, isStr, blM, if_true, len_str, eq_int, k, in_str, letD]
    cases x.length == 1 <;> rfl
  | non => simp only [dAndV, dA, aC, aN, dC, d2, hv, bind_ret, isi_str h, isStr, blM, if_false, Bool.false_eq_true, letD]
  | bl b => simp only [dAndV, dA, aC, aN, dC, d2, hv, bind_ret, isi_str h, isStr, blM, if_false, Bool.false_eq_true, letD]
  | int b => simp only [dAndV, dA, aC, aN, dC, d2, hv, bind_ret, isi_str h, isStr, blM, if_false, Bool.false_eq_true, letD]
  | tup b => simp only [dAndV, dA, aC, aN, dC, d2, hv, bind_ret, isi_str h, isStr, blM, if_false, Bool.false_eq_true, letD]
  | lst b => simp only [dAndV, dA, aC, aN, dC, d2, hv, bind_ret, isi_str h, isStr, blM, if_false, Bool.false_eq_true, letD]
  | raw _ => exact h.elim
  | exc _ => exact h.elim
  | scr _ => exact h.elim
  | dct _ _ => exact h.elim
  | dci _ _ => exact h.elim
theorem is_letter_val {d : D} (h : Plain d) : f_is_letter [d] = M.ret (.bl (letD d)) := runD_rt (sRet_val (let_val h rfl))
/-! ### rows -/
def letters (x : Str) : Bool := x.cps.toList.all fun c => inL ⟨#[c]⟩
def rowD : D → Bool
  | .str x => (decide (1 ≤ x.length) && decide (x.length ≤ 8)) && letters x
  | _ => false
theorem bools_map (l : List Bool) : bools (l.map D.bl) = some l := by
  induction l with
  | nil => rfl
  | cons b r ih => show (bools (r.map D.bl)).map _ = _; rw [ih]; rfl
theorem all_map (l : List Bool) : allM [.lst (l.map D.bl)] = M.ret (.bl (l.all id)) := by
  show (match bools (l.map D.bl) with | some bs => M.ret (D.bl (bs.all id)) | none => M.stuck) = _
  rw [bools_map]
/-- 1 <= n <= 8 -/
theorem ch_val {δ : DE} {ρ : Rho} {n : Nat} (h : δ ρ = M.ret (.int (n : Int))) :
    tB' (chI (fun i j => decide (i ≤ j)) (fun i j => decide (i ≤ j)) (dC (.int 1)) δ (dC (.int 8))) ρ = M.ret (decide (1 ≤ n) && decide (n ≤ 8)) := by
  have k1 : decide ((1 : Int) ≤ (n : Int)) = decide (1 ≤ n) := by by_cases h : 1 ≤ n <;> simp [h] <;> omega
  have k2 : decide ((n : Int) ≤ 8) = decide (n ≤ 8) := by by_cases h : n ≤ 8 <;> simp [h] <;> omega
  simp only [tB', chI, dC, h, bind_ret, k1, k2, gI, blM]
  cases decide (1 ≤ n) <;> rfl
theorem is_row_val {d : D} (h : Plain d) : f_is_row [d] = M.ret (.bl (rowD d)) := by
  refine runD_rt ?_
  have hρ : ([d].map (fun d => some (Sl.fz d)) ++ List.replicate (1 - [d].length) none) = [fz d] := rfl
  rw [hρ]
  have hv : dV 0 [fz d] = M.ret d := rfl
  have no : isStr d = false → τ_is_row [fz d] = M.ret (.rt (.bl false)) := fun hs => by
    refine sSeq_rt (sIf_T ?_ (sRet_val rfl))
    simp only [dOr, dNot, dTru, dA, aC, aN, dC, hv, bind_ret, isi_str h, hs, truM, Bool.not_false, if_true]
  cases d with
  | str x =>
    have hi : dTru (dA isiM (aC (dV 0) (aC (dC (.raw (.ty "str"))) aN))) [fz (.str x)] = M.ret true := by
      simp only [dTru, dA, aC, aN, dC, hv, bind_ret, isi_str h, isStr, truM]
    have hl : dA lenM (aC (dV 0) aN) [fz (.str x)] = M.ret (.int (x.length : Int)) := rfl
    have hc := ch_val hl
    by_cases hr : (decide (1 ≤ x.length) && decide (x.length ≤ 8)) = true
    · rw [hr] at hc
      refine sSeq_nx (sIf_F ?_ (ρ := [fz (.str x)]) rfl) (sRet_val ?_)
      · unfold dOr dNot
        rw [hi, bind_ret, bind_ret, hc]
        rfl
      · have hb : x.length ≤ 8 := by simp only [Bool.and_eq_true, decide_eq_true_eq] at hr; exact hr.2
        have cm : dComp 0 (fun ρ => (dV 0) ρ >>= sgnM) dTrue (callF 1 f_is_letter (aC (dV 0) aN)) [fz (.str x)] = M.ret (.lst ((x.cps.toList.map fun c => inL ⟨#[c]⟩).map D.bl)) := by
          refine dComp_val (ds := signs x) rfl ?_ ?_
          · have := compL_map (f := compF 0 dTrue (callF 1 f_is_letter (aC (dV 0) aN)) [fz (.str x)]) (g := fun d => D.bl (letD d)) (signs x) fun d hd => by
              rw [compF0]
              obtain ⟨c, _, rfl⟩ := List.mem_map.mp hd
              show (f_is_letter [.str ⟨#[c]⟩] >>= fun y => M.ret (some y)) = _
              rw [is_letter_val (d := .str ⟨#[c]⟩) trivial]
              rfl
            rw [this]
            unfold signs
            rw [List.map_map, List.map_map]
            congr 1
          · rw [List.length_map, List.length_map, Array.length_toList, limv]
            exact Nat.le_trans hb (by decide)
        rw [dA_val (aC_val cm rfl), all_map]
        show M.ret (D.bl ((x.cps.toList.map fun c => inL ⟨#[c]⟩).all id)) = M.ret (D.bl ((decide (1 ≤ x.length) && decide (x.length ≤ 8)) && letters x))
        rw [hr]
        unfold letters
        rw [List.all_map]
        rfl
    · have hr : (decide (1 ≤ x.length) && decide (x.length ≤ 8)) = false := by simpa using hr
      rw [hr] at hc
      have : rowD (.str x) = false := by
        show ((decide (1 ≤ x.length) && decide (x.length ≤ 8)) && letters x) = false
        rw [hr]; rfl
      rw [this]
      refine sSeq_rt (sIf_T ?_ (sRet_val rfl))
      unfold dOr dNot
      rw [hi, bind_ret, bind_ret, hc]
      rfl
  | non => exact no rfl
  | bl b => exact no rfl
  | int b => exact no rfl
  | tup b => exact no rfl
  | lst b => exact no rfl
  | raw _ => exact h.elim
  | exc _ => exact h.elim
  | scr _ => exact h.elim
  | dct _ _ => exact h.elim
  | dci _ _ => exact h.elim
end K1


set_option Elab.async false
set_option linter.all false
set_option maxRecDepth 100000
/-! The mathematics of k01, part 5: what is a board, by the program and by the law -/
namespace K1
open PySem L2 L3
def lenD : D → Nat
  | .str x => x.length
  | _ => 0
def boardD : D → Bool
  | .tup ds => (decide (1 ≤ ds.length) && decide (ds.length ≤ 8)) && (ds.all rowD && ds.all fun d => lenD d == lenD (ds.headD .non))
  | _ => false
def Plain2 : D → Prop
  | .tup ds => ∀ d ∈ ds, Plain d
  | d => Plain d
theorem Plain2.plain {d : D} (h : Plain2 d) : Plain d := by
  cases d <;> first | exact h | exact trivial
theorem itT {ρ : Rho} {i : Nat} {ds : List D} (h : ρ[i]? = some (fz (.tup ds))) : dItT (dV i) ρ = M.ret ds := by
  unfold dItT
  rw [dV_val h]
  rfl
theorem ix0 {ds : List D} {d : D} {r : List D} (h : ds = d :: r) : gIxT (.tup ds) (.int 0) = M.ret d := by
  subst h
  show (match L2.atI (d :: r) ((0 : Nat) : Int) with | some d => M.ret d | none => M.stuck) = _
  rw [atI_nat' (x := d) rfl]
theorem row_str {d : D} (h : rowD d = true) : ∃ x, d = .str x := by
  cases d <;> first | exact ⟨_, rfl⟩ | cases h
/-- the first test of either -/
theorem first_val {d : D} (h : Plain d) : dOr (dNot (dTru (dA isiM (aC (dV 0) (aC (dC (.raw (.ty "tuple"))) aN))))) (dNot (tB' (chI (fun i j => decide (i ≤ j)) (fun i j => decide (i ≤ j)) (dC (.int 1)) (dA lenM (aC (dV 0) aN)) (dC (.int 8))))) [fz d] =
    M.ret (match d with | .tup ds => !(decide (1 ≤ ds.length) && decide (ds.length ≤ 8)) | _ => true) := by
  have hv : dV 0 [fz d] = M.ret d := rfl
  have no : isTup d = false → dOr (dNot (dTru (dA isiM (aC (dV 0) (aC (dC (.raw (.ty "tuple"))) aN))))) (dNot (tB' (chI (fun i j => decide (i ≤ j)) (fun i j => decide (i ≤ j)) (dC (.int 1)) (dA lenM (aC (dV 0) aN)) (dC (.int 8))))) [fz d] = M.ret true := fun hs => by
    simp only [dOr, dNot, dTru, dA, aC, aN, dC, hv, bind_ret, isi_tup h, hs, truM, Bool.not_false, if_true]
  cases d with
  | tup ds =>
    have hi : dTru (dA isiM (aC (dV 0) (aC (dC (.raw (.ty "tuple"))) aN))) [fz (.tup ds)] = M.ret true := by
      simp only [dTru, dA, aC, aN, dC, hv, bind_ret, isi_tup h, isTup, truM]
    have hl : dA lenM (aC (dV 0) aN) [fz (.tup ds)] = M.ret (.int (ds.length : Int)) := rfl
    unfold dOr dNot
    rw [hi, bind_ret, bind_ret, ch_val hl]
    rfl
  | non => exact no rfl
  | bl b => exact no rfl
  | int b => exact no rfl
  | str b => exact no rfl
  | lst b => exact no rfl
  | raw _ => exact h.elim
  | exc _ => exact h.elim
  | scr _ => exact h.elim
  | dct _ _ => exact h.elim
  | dci _ _ => exact h.elim
theorem all_rows {ds : List D} (h : ∀ d ∈ ds, Plain d) (hl : ds.length ≤ 8) : dA allM (aC (dComp 0 (dItT (dV 0)) dTrue (callF 1 f_is_row (aC (dV 0) aN))) aN) [fz (.tup ds)] = M.ret (.bl (ds.all rowD)) := by
  have cm : dComp 0 (dItT (dV 0)) dTrue (callF 1 f_is_row (aC (dV 0) aN)) [fz (.tup ds)] = M.ret (.lst ((ds.map rowD).map D.bl)) := by
    refine dComp_val (ds := ds) rfl ?_ (by rw [List.length_map, List.length_map, limv]; omega)
    rw [List.map_map]
    refine compL_map (g := D.bl ∘ rowD) ds fun d hd => ?_
    rw [compF0]
    show (f_is_row [d] >>= fun y => M.ret (some y)) = _
    rw [is_row_val (h d hd)]
    rfl
  rw [dA_val (aC_val cm rfl), all_map, List.all_map]
  rfl
theorem all_lens {ds : List D} (hs : ∀ d ∈ ds, ∃ x, d = .str x) (h0 : 1 ≤ ds.length) (hl : ds.length ≤ 8) :
    dA allM (aC (dComp 0 (dItT (dV 0)) dTrue (d2 gEq (dA lenM (aC (dV 0) aN)) (dA lenM (aC (d2 gIxT (dV 1) (dC (.int 0))) aN)))) aN) [fz (.tup ds)] = M.ret (.bl (ds.all fun d => lenD d == lenD (ds.headD .non))) := by
  obtain ⟨d0, r, e0⟩ : ∃ d0 r, ds = d0 :: r := by
    cases ds with
    | nil => simp at h0
    | cons a r => exact ⟨a, r, rfl⟩
  have hh : ds.headD .non = d0 := by rw [e0]; rfl
  obtain ⟨x0, hx0⟩ := hs d0 (by rw [e0]; exact List.mem_cons_self ..)
  have cm : dComp 0 (dItT (dV 0)) dTrue (d2 gEq (dA lenM (aC (dV 0) aN)) (dA lenM (aC (d2 gIxT (dV 1) (dC (.int 0))) aN))) [fz (.tup ds)] = M.ret (.lst ((ds.map fun d => lenD d == lenD (ds.headD .non)).map D.bl)) := by
    refine dComp_val (ds := ds) rfl ?_ (by rw [List.length_map, List.length_map, limv]; omega)
    rw [List.map_map]
    refine compL_map (g := D.bl ∘ fun d => lenD d == lenD (ds.headD .non)) ds fun d hd => ?_
    rw [compF0]
    obtain ⟨x, rfl⟩ := hs d hd
    have k : ((x.length : Int) == (x0.length : Int)) = (x.length == x0.length) := natEq _ _
    have i0 : gIxT (.tup ds) (.int 0) = M.ret (.str x0) := by rw [ix0 e0, hx0]
    have hh' : ds.headD .non = .str x0 := by rw [hh, hx0]
    simp only [d2, dA, aC, aN, dC, dV, bind_ret, List.getElem?_cons_zero, List.getElem?_cons_succ, len_str, i0, eq_int, k, Function.comp, lenD, hh']
  rw [dA_val (aC_val cm rfl), all_map, List.all_map]
  rfl
theorem is_board_val {d : D} (h : Plain2 d) : f_is_board [d] = M.ret (.bl (boardD d)) := by
  refine runD_rt ?_
  have hρ : ([d].map (fun d => some (Sl.fz d)) ++ List.replicate (1 - [d].length) none) = [fz d] := rfl
  rw [hρ]
  have hf := first_val h.plain
  have no : (∀ ds, d ≠ .tup ds) → τ_is_board [fz d] = M.ret (.rt (.bl (boardD d))) := fun hn => by
    cases d <;> first | exact absurd rfl (hn _) | exact sSeq_rt (sIf_T hf (sRet_val rfl))
  cases d with
  | tup ds =>
    have hf : _ = M.ret (!(decide (1 ≤ ds.length) && decide (ds.length ≤ 8))) := hf
    by_cases hr : (decide (1 ≤ ds.length) && decide (ds.length ≤ 8)) = true
    · rw [hr] at hf
      have hb := hr
      simp only [Bool.and_eq_true, decide_eq_true_eq] at hb
      have e : boardD (.tup ds) = (ds.all rowD && ds.all fun d => lenD d == lenD (ds.headD .non)) := by
        show ((decide (1 ≤ ds.length) && decide (ds.length ≤ 8)) && _) = _
        rw [hr, Bool.true_and]
      rw [e]
      have a1 := all_rows h hb.2
      refine sSeq_nx (sIf_F hf rfl) ?_
      cases hc : ds.all rowD with
      | false =>
        rw [hc] at a1
        refine sSeq_rt (sIf_T ?_ (sRet_val rfl))
        unfold dNot dTru
        rw [a1]
        rfl
      | true =>
        rw [hc] at a1
        refine sSeq_nx (sIf_F ?_ rfl) (sRet_val ?_)
        · unfold dNot dTru
          rw [a1]
          rfl
        · rw [Bool.true_and]
          exact all_lens (fun d hd => row_str (List.all_eq_true.mp hc d hd)) hb.1 hb.2
    · have hr : (decide (1 ≤ ds.length) && decide (ds.length ≤ 8)) = false := by simpa using hr
      rw [hr] at hf
      have e : boardD (.tup ds) = false := by
        show ((decide (1 ≤ ds.length) && decide (ds.length ≤ 8)) && _) = _
        rw [hr]; rfl
      rw [e]
      exact sSeq_rt (sIf_T hf (sRet_val rfl))
  | non => exact no fun _ z => by cases z
  | bl b => exact no fun _ z => by cases z
  | int b => exact no fun _ z => by cases z
  | str b => exact no fun _ z => by cases z
  | lst b => exact no fun _ z => by cases z
  | raw _ => exact h.elim
  | exc _ => exact h.elim
  | scr _ => exact h.elim
  | dct _ _ => exact h.elim
  | dci _ _ => exact h.elim
end K1


set_option Elab.async false
set_option linter.all false
set_option maxRecDepth 100000
/-! facts that the proofs of several rows share -/
namespace K1
open PySem L2 L3
theorem if_some {d : D} {b : Bool} : (if b = true then (M.ret d >>= fun y => M.ret (some y)) else M.ret none) = M.ret (if b = true then some d else none) := by
  cases b <;> rfl
theorem sExp_ex {δ : DE} {ρ : Rho} {n : Nat} (h : δ ρ = M.raise n) : sExp δ ρ = M.raise n := by
  unfold sExp
  rw [h]
  rfl
theorem sSeq_ex {a b : DS} {ρ : Rho} {n : Nat} (h : a ρ = M.raise n) : sSeq a b ρ = M.raise n := by
  unfold sSeq
  rw [h]
  rfl
theorem need_board_val {d : D} (h : Plain2 d) : f_need_board [d] = if boardD d then M.ret .non else M.raise 0 := by
  have hb : dNot (dTru (callF 1 f_is_board (aC (dV 0) aN))) [fz d] = M.ret (!boardD d) := by
    have : callF 1 f_is_board (aC (dV 0) aN) [fz d] = f_is_board [d] := rfl
    simp only [dNot, dTru, this, is_board_val h, bind_ret, truM]
  cases hc : boardD d with
  | true =>
    rw [hc] at hb
    exact runD_nx (ρ := [fz d]) (sIf_F hb rfl)
  | false =>
    rw [hc] at hb
    exact runD_ex (sIf_T hb rfl)
def tryV : M D → M D
  | some (.ex n) => hdM n
  | r => r
abbrev refD (n : Int) : D := .tup [.str "refused", .int n]
theorem hd_val (n : Nat) (h : n ≤ 6) : hdM n = M.ret (refD (n : Int)) := by
  unfold hdM
  rw [Nat.min_eq_left h]
theorem forL_acc {put : D → Rho → Option Rho} {body : DS} {Fr : List D → Rho → Prop} {g : D → List D} {B : Nat} : ∀ (ds : List D) (acc : List D) (ρ : Rho), Fr acc ρ → (acc ++ ds.flatMap g).length ≤ B →
    (∀ d ∈ ds, ∀ acc ρ, Fr acc ρ → (acc ++ g d).length ≤ B → ∃ ρ1 ρ2, put d ρ = some ρ1 ∧ body ρ1 = M.ret (.nx ρ2) ∧ Fr (acc ++ g d) ρ2) → ∃ ρ', forL put body ds ρ = M.ret (.nx ρ') ∧ Fr (acc ++ ds.flatMap g) ρ'
  | [], acc, ρ, h, _, _ => ⟨ρ, rfl, by simpa using h⟩
  | d :: ds, acc, ρ, h, hB, step => by
    have hB' : ((acc ++ g d) ++ ds.flatMap g).length ≤ B := by simpa [List.flatMap_cons, List.append_assoc] using hB
    obtain ⟨ρ1, ρ2, e1, e2, h2⟩ := step d (List.mem_cons_self ..) acc ρ h (Nat.le_trans (by simp only [List.length_append]; omega) hB')
    obtain ⟨ρ', e3, h3⟩ := forL_acc (Fr := Fr) (g := g) (B := B) ds (acc ++ g d) ρ2 h2 hB' fun d' hd => step d' (List.mem_cons_of_mem _ hd)
    refine ⟨ρ', ?_, by simpa [List.flatMap_cons, List.append_assoc] using h3⟩
    show (match put d ρ with | none => M.stuck | some ρ1 => body ρ1 >>= fun o => match o with | .nx ρ2 => forL put body ds ρ2 | .rt v => M.ret (.rt v)) = _
    rw [e1]
    show (body ρ1 >>= fun o => match o with | .nx ρ2 => forL put body ds ρ2 | .rt v => M.ret (.rt v)) = _
    rw [e2]
    exact e3
abbrev ow (ds : List D) : Option Sl := some (.ow (.lst ds))
def rowC (W : Nat) (d : D) : List D := (rngL 0 W).map fun e => .tup [d, e]
def cellsL (R W : Nat) : List D := (rngL 0 R).flatMap (rowC W)
theorem rowC_len (W : Nat) (d : D) : (rowC W d).length = W := by simp [rowC, rngL_len]
theorem flat_len {α β : Type} (g : α → List β) (W : Nat) (h : ∀ a, (g a).length = W) : ∀ l : List α, (l.flatMap g).length = l.length * W
  | [] => by simp
  | a :: l => by
    rw [List.flatMap_cons, List.length_append, h, flat_len g W h l, List.length_cons, Nat.succ_mul]
    omega
theorem cellsL_len (R W : Nat) : (cellsL R W).length = R * W := by
  unfold cellsL
  rw [flat_len _ W (rowC_len W), rngL_len]
theorem len0 {bd : List Str} {W : Nat} (hg : Good bd W) {i : Nat} {ρ : Rho} (hρ : ρ[i]? = some (fz (brd bd))) : dA lenM (aC (d2 gIxT (dV i) (dC (.int 0))) aN) ρ = M.ret (.int (W : Int)) := by
  obtain ⟨x0, r, e0⟩ : ∃ x0 r, bd = x0 :: r := by
    have := hg.r1
    cases bd with
    | nil => simp at this
    | cons x r => exact ⟨x, r, rfl⟩
  have hx : x0.length = W := (hg.rows x0 (by rw [e0]; simp)).len
  have i0 : gIxT (brd bd) (.int 0) = M.ret (.str x0) := ix0 (r := r.map D.str) (by rw [e0]; rfl)
  simp only [dA, aC, aN, d2, dC, dV_val hρ, bind_ret, i0, len_str, hx]
theorem lenR {bd : List Str} {i : Nat} {ρ : Rho} (hρ : ρ[i]? = some (fz (brd bd))) : dA lenM (aC (dV i) aN) ρ = M.ret (.int (bd.length : Int)) := by
  have : lenM [brd bd] = M.ret (.int (bd.length : Int)) := by
    show M.ret (D.int ((bd.map D.str).length : Int)) = _
    rw [List.length_map]
  simp only [dA, aC, aN, dV_val hρ, bind_ret, this]
theorem rng_of {δ : DE} {ρ : Rho} {n : Nat} (h : δ ρ = M.ret (.int (n : Int))) (hn : n ≤ 4096) : (fun ρ => (aC δ aN) ρ >>= rngM1) ρ = M.ret (rngL 0 n) := by
  show (aC δ aN ρ >>= rngM1) = _
  rw [aC_val h rfl, bind_ret, rngM1_val hn]
theorem row_comp {bd : List Str} {W : Nat} (hg : Good bd W) {d : D} {x1 : Option Sl} : dComp 0 (fun ρ => (aC (dA lenM (aC (d2 gIxT (dV 0) (dC (.int 0))) aN)) aN) ρ >>= rngM1) dTrue (dA mkTup (aC (dV 3) (aC (dV 0) aN))) [fz (brd bd), x1, fz d] = M.ret (.lst (rowC W d)) := by
  have := hg.w5
  refine dComp_val (rng_of (len0 hg rfl) (by omega)) ?_ (by rw [rowC_len, limv]; omega)
  exact compL_map (g := fun e => .tup [d, e]) _ fun e _ => rfl
theorem law_cells_val {bd : List Str} {W : Nat} (hg : Good bd W) : f_law_cells [brd bd] = M.ret (.lst (cellsL bd.length W)) := by
  have h5 := hg.r5
  have w5 := hg.w5
  have hm : bd.length * W ≤ 25 := Nat.mul_le_mul h5 w5
  obtain ⟨ρ', e, x2, hρ'⟩ := forL_acc (put := putN 2) (body := sSet 1 (d2 gCatL (dV 1) (dComp 0 (fun ρ => (aC (dA lenM (aC (d2 gIxT (dV 0) (dC (.int 0))) aN)) aN) ρ >>= rngM1) dTrue (dA mkTup (aC (dV 3) (aC (dV 0) aN))))))
    (Fr := fun acc ρ => ∃ x2, ρ = [fz (brd bd), fz (.lst acc), x2]) (g := rowC W) (B := 25) (rngL 0 bd.length) [] [fz (brd bd), fz (.lst []), none] ⟨none, rfl⟩ (by rw [List.nil_append]; exact Nat.le_trans (Nat.le_of_eq (cellsL_len ..)) hm) fun d hd acc ρ ⟨x2, hρ⟩ hB => by
      subst hρ
      refine ⟨_, [fz (brd bd), fz (.lst (acc ++ rowC W d)), fz d], rfl, ?_, _, rfl⟩
      refine (sSet_val (d := .lst (acc ++ rowC W d)) ?_).trans rfl
      refine (d2_val (x := .lst acc) (y := .lst (rowC W d)) rfl (row_comp hg)).trans ?_
      show (if acc.length + (rowC W d).length ≤ lim then M.ret (D.lst (acc ++ rowC W d)) else M.stuck) = _
      rw [if_pos (by rw [List.length_append] at hB; rw [limv]; omega)]
  subst hρ'
  refine runD_rt (sSeq_nx (sSet_val (d := .lst []) rfl) (sSeq_nx (sFor_val (rng_of (lenR rfl) (by omega)) e) ?_))
  rfl
def rngI (lo : Int) (n : Nat) : List Int := (List.range n).map fun (i : Nat) => lo + (i : Int)
theorem rngL_eq (lo : Int) (n : Nat) : rngL lo n = (rngI lo n).map D.int := by
  unfold rngL rngI
  rw [List.map_map]
  rfl
def tupP (p : Int × Int) : D := .tup [.int p.1, .int p.2]
theorem flat_map {gI : Int → List (Int × Int)} {g : D → List D} (h : ∀ i, g (.int i) = (gI i).map tupP) : ∀ is : List Int, (is.map D.int).flatMap g = (is.flatMap gI).map tupP
  | [] => rfl
  | i :: is => by rw [List.map_cons, List.flatMap_cons, List.flatMap_cons, List.map_append, flat_map h is, h]
theorem dAndV_val {a b : DE} {ρ : Rho} {p q : Bool} (h1 : a ρ = M.ret (.bl p)) (h2 : b ρ = M.ret (.bl q)) : dAndV a b ρ = M.ret (.bl (p && q)) := by
  unfold dAndV
  rw [h1, bind_ret]
  show (if p = true then b ρ else M.ret (.bl false)) = _
  cases p
  · rfl
  · rw [if_pos rfl, h2]; rfl
theorem dOr_val {a b : DT} {ρ : Rho} {p q : Bool} (h1 : a ρ = M.ret p) (h2 : b ρ = M.ret q) : dOr a b ρ = M.ret (p || q) := by
  unfold dOr
  rw [h1, bind_ret]
  cases p
  · rw [if_neg (by simp), h2]; rfl
  · rfl
theorem good_plain {bd : List Str} : Plain2 (brd bd) := fun d hd => by
  obtain ⟨x, _, rfl⟩ := List.mem_map.mp hd
  trivial
theorem good_board {bd : List Str} {W : Nat} (hg : Good bd W) : boardD (brd bd) = true := by
  have h1 := hg.r1
  have h5 := hg.r5
  have w1 := hg.w1
  have w5 := hg.w5
  obtain ⟨x0, r, e0⟩ : ∃ x0 r, bd = x0 :: r := by
    cases bd with
    | nil => simp at h1
    | cons x r => exact ⟨x, r, rfl⟩
  have hx : x0.length = W := (hg.rows x0 (by rw [e0]; simp)).len
  have hh : lenD ((bd.map D.str).headD .non) = W := by rw [e0]; exact hx
  show ((decide (1 ≤ (bd.map D.str).length) && decide ((bd.map D.str).length ≤ 8)) && ((bd.map D.str).all rowD && (bd.map D.str).all fun d => lenD d == lenD ((bd.map D.str).headD .non))) = true
  rw [hh, List.length_map]
  simp only [Bool.and_eq_true, decide_eq_true_eq, List.all_eq_true]
  refine ⟨⟨h1, by omega⟩, fun d hd => ?_, fun d hd => ?_⟩
  · obtain ⟨x, hx, rfl⟩ := List.mem_map.mp hd
    have q := hg.rows x hx
    show ((decide (1 ≤ x.length) && decide (x.length ≤ 8)) && letters x) = true
    rw [q.len]
    simp only [Bool.and_eq_true, decide_eq_true_eq]
    exact ⟨⟨w1, by omega⟩, List.all_eq_true.mpr q.let'⟩
  · obtain ⟨x, hx, rfl⟩ := List.mem_map.mp hd
    show (x.length == W) = true
    rw [(hg.rows x hx).len]
    simp
theorem nb {bd : List Str} {W : Nat} (hg : Good bd W) : f_need_board [brd bd] = M.ret .non := by
  rw [need_board_val good_plain, good_board hg]
  rfl
theorem eqL_self {f : D → D → Option Bool} : ∀ l : List D, (∀ x ∈ l, f x x = some true) → eqL f l l = some true
  | [], _ => rfl
  | x :: l, h => by
    show (match f x x, eqL f l l with | some b, some r => some (b && r) | _, _ => none) = _
    rw [h x (List.mem_cons_self ..), eqL_self l fun y hy => h y (List.mem_cons_of_mem _ hy)]
    rfl
theorem eq_strs {l : List Str} {n : Nat} : eqF (n + 1) (.tup (l.map D.str)) (.tup (l.map D.str)) = some true := eqL_self _ fun x hx => by
  obtain ⟨y, _, rfl⟩ := List.mem_map.mp hx
  have : eqFlat (.str y) (.str y) = some true := by show some (y == y) = _; simp
  cases n <;> exact this
theorem ne_of_self {x : D} (h : eqF 6 x x = some true) : gNe x x = M.ret (.bl false) := by
  unfold gNe
  rw [h]
  rfl
def pairsP (R W : Nat) : List (Int × Int) := (rngI 0 R).flatMap fun i => (rngI 0 W).map fun j => (i, j)
theorem cellsL_eq (R W : Nat) : cellsL R W = (pairsP R W).map tupP := by
  unfold cellsL
  rw [rngL_eq]
  refine flat_map (fun i => ?_) _
  unfold rowC
  rw [rngL_eq, List.map_map, List.map_map]
  rfl
theorem rngI_mem {n : Nat} {i : Int} (h : i ∈ rngI 0 n) : 0 ≤ i ∧ i < (n : Int) := by
  unfold rngI at h
  obtain ⟨k, hk, rfl⟩ := List.mem_map.mp h
  have := List.mem_range.mp hk
  omega
theorem pairs_mem {R W : Nat} {p : Int × Int} (h : p ∈ pairsP R W) : (0 ≤ p.1 ∧ p.1 < (R : Int)) ∧ 0 ≤ p.2 ∧ p.2 < (W : Int) := by
  unfold pairsP at h
  obtain ⟨i, hi, h⟩ := List.mem_flatMap.mp h
  obtain ⟨j, hj, rfl⟩ := List.mem_map.mp h
  exact ⟨rngI_mem hi, rngI_mem hj⟩
theorem ixL_val {l : List D} {v : Nat} (h : v < l.length) : ∃ d, d ∈ l ∧ gIxL (.lst l) (.int (v : Int)) = M.ret d := by
  refine ⟨l[v], List.getElem_mem h, ?_⟩
  show (match L2.atI l (v : Int) with | some d => M.ret d | none => M.stuck) = _
  rw [atI_nat' (List.getElem?_eq_getElem h)]
theorem ne_F {a b : DE} {ρ : Rho} {x : D} (h1 : a ρ = M.ret x) (h2 : b ρ = M.ret x) (h : gNe x x = M.ret (.bl false)) : tB' (d2 gNe a b) ρ = M.ret false := by
  unfold tB'
  rw [d2_val h1 h2, h]
  rfl
theorem told_ret {m : M D} {d : D} (h : m = M.ret d) : tryV m = M.ret d := by
  subst h
  rfl
end K1


set_option Elab.async false
set_option linter.all false
set_option maxRecDepth 100000
/-! Boards as lists of texts: turned, mirrored, how often each sign is there -/
namespace K1
open PySem L3
/-! ### how often a sign is in a text -/
theorem cnt_steps (x : Str) (c : Nat) : ∀ (n a : Nat) (st : Array Nat × Nat), a + n ≤ x.length + 1 → st.snd ≤ a → st.fst.size ≤ a →
    (forIn (List.range' a n) st (StrLaws.occBody x ⟨#[c]⟩ x.length (x.length + 1))).run.fst.size = st.fst.size + ((List.range' a n).filter fun i => decide (x.cps.toList[i]? = some c)).length
  | 0, a, st, _, _, _ => rfl
  | n + 1, a, st, h1, h2, h3 => by
    rw [List.range'_succ, List.forIn_cons, List.filter_cons]
    have key := StrLaws.subAt_one x c a
    unfold StrLaws.occBody
    by_cases hc : x.cps.toList[a]? = some c
    · have k := key.mpr hc
      rw [if_pos ⟨⟨⟨by omega, h2⟩, k.1⟩, k.2⟩, if_pos (decide_eq_true hc)]
      have ih := cnt_steps x c n (a + 1) (st.fst.push a, a + (⟨#[c]⟩ : Str).length) (by omega) (Nat.le_refl _) (by simp; omega)
      refine Eq.trans ih ?_
      simp
      omega
    · rw [if_neg (fun z => hc (key.mp ⟨z.1.2, z.2⟩)), if_neg (by simpa using hc)]
      exact cnt_steps x c n (a + 1) (st.fst, st.snd) (by omega) (by show st.snd ≤ a + 1; omega) (by show st.fst.size ≤ a + 1; omega)
theorem cnt_idx (c : Nat) : ∀ l : List Nat, ((List.range (l.length + 1)).filter fun i => decide (l[i]? = some c)).length = l.count c
  | [] => by simp [List.range_succ]
  | a :: l => by
    rw [List.length_cons, List.range_succ_eq_map, List.filter_cons, List.filter_map]
    have e : ((fun i => decide ((a :: l)[i]? = some c)) ∘ Nat.succ) = fun i => decide (l[i]? = some c) := by
      funext i
      simp
    rw [e]
    by_cases h : a = c
    · subst h
      simp only [List.getElem?_cons_zero, decide_true, if_true, List.length_cons, List.length_map, cnt_idx a l, List.count_cons_self]
    · have h' : ¬ (a == c) = true := by simpa using h
      simp only [List.getElem?_cons_zero, Option.some.injEq, h, decide_false, Bool.false_eq_true, if_false, List.length_map, cnt_idx c l]
      rw [List.count_cons_of_ne h]
theorem cnt_one (x : Str) (c : Nat) : (Builtin.Str.occurrences x ⟨#[c]⟩ 0 x.length (x.length + 1)).length = x.cps.toList.count c := by
  have k := cnt_steps x c (x.length + 1 - 0) 0 (#[], 0) (by omega) (Nat.le_refl _) (Nat.le_refl _)
  rw [StrLaws.occ_eq, Array.length_toList, k, ← cnt_idx c x.cps.toList]
  show 0 + _ = _
  rw [Nat.zero_add, Array.length_toList, List.range_eq_range']
  rfl
/-! ### cells of a board -/
def ch (r : Str) (j : Nat) : Nat := r.cps.toList.getD j 0
def colS (bd : List Str) (c : Nat) : Str := ⟨(bd.reverse.map fun r => ch r c).toArray⟩
def turnL (bd : List Str) (W : Nat) : List Str := (List.range W).map (colS bd)
def mirrL (bd : List Str) : List Str := bd.map revS
def at2 (bd : List Str) (i j : Nat) : Nat := ch (bd.getD i ⟨#[]⟩) j
theorem turn_len (bd : List Str) (W : Nat) : (turnL bd W).length = W := by simp [turnL]
theorem col_len (bd : List Str) (c : Nat) : (colS bd c).length = bd.length := by
  show (bd.reverse.map fun r => ch r c).toArray.size = _
  simp
theorem turn_rows {bd : List Str} {W : Nat} {r : Str} (h : r ∈ turnL bd W) : ∃ c, c < W ∧ r = colS bd c := by
  obtain ⟨c, hc, e⟩ := List.mem_map.mp h
  exact ⟨c, List.mem_range.mp hc, e.symm⟩
theorem turn_at {bd : List Str} {W i j : Nat} (hi : i < W) (hj : j < bd.length) : at2 (turnL bd W) i j = at2 bd (bd.length - 1 - j) i := by
  unfold at2 turnL
  rw [List.getD_eq_getElem?_getD, List.getElem?_map, List.getElem?_range hi]
  show (bd.reverse.map fun r => ch r i).getD j 0 = _
  rw [List.getD_eq_getElem?_getD, List.getElem?_map, List.getElem?_reverse hj, List.getD_eq_getElem?_getD, List.getElem?_eq_getElem (by omega)]
  rfl
theorem str_ext {r s : Str} {W : Nat} (h1 : r.length = W) (h2 : s.length = W) (h : ∀ j, j < W → ch r j = ch s j) : r = s := by
  obtain ⟨⟨l⟩⟩ := r
  obtain ⟨⟨m⟩⟩ := s
  have h1 : l.length = W := h1
  have h2 : m.length = W := h2
  congr 2
  refine List.ext_getElem (by omega) fun j a b => ?_
  have := h j (by omega)
  unfold ch at this
  rw [List.getD_eq_getElem?_getD, List.getD_eq_getElem?_getD] at this
  simp only [List.getElem?_eq_getElem a, List.getElem?_eq_getElem b, Option.getD_some] at this
  exact this
theorem brd_ext {a b : List Str} {W : Nat} (hl : a.length = b.length) (ha : ∀ r ∈ a, r.length = W) (hb : ∀ r ∈ b, r.length = W) (h : ∀ i j, i < a.length → j < W → at2 a i j = at2 b i j) : a = b := by
  refine List.ext_getElem hl fun i h1 h2 => ?_
  refine str_ext (ha _ (List.getElem_mem h1)) (hb _ (List.getElem_mem h2)) fun j hj => ?_
  have := h i j h1 hj
  unfold at2 at this
  rw [List.getD_eq_getElem?_getD, List.getD_eq_getElem?_getD, List.getElem?_eq_getElem h1, List.getElem?_eq_getElem h2] at this
  exact this
theorem turn_row_len {bd : List Str} {W : Nat} : ∀ r ∈ turnL bd W, r.length = bd.length := fun r h => by
  obtain ⟨c, _, rfl⟩ := turn_rows h
  exact col_len bd c
/-- turned twice -/
theorem turn2_at {bd : List Str} {W i j : Nat} (hi : i < bd.length) (hj : j < W) : at2 (turnL (turnL bd W) bd.length) i j = at2 bd (bd.length - 1 - i) (W - 1 - j) := by
  rw [turn_at hi (by rw [turn_len]; exact hj), turn_len, turn_at (by omega) hi]
theorem turn4 {bd : List Str} {W : Nat} (h : ∀ r ∈ bd, r.length = W) : turnL (turnL (turnL (turnL bd W) bd.length) W) bd.length = bd := by
  have l1 := turn_len bd W
  have l2 := turn_len (turnL bd W) bd.length
  have l3 := turn_len (turnL (turnL bd W) bd.length) W
  refine brd_ext (W := W) (turn_len ..) (fun r hr => ?_) h fun i j hi hj => ?_
  · have := turn_row_len r hr
    rw [this, l3]
  · rw [turn_len] at hi
    have e : turnL (turnL (turnL (turnL bd W) bd.length) W) bd.length = turnL (turnL (turnL (turnL bd W) bd.length) W) (turnL (turnL bd W) bd.length).length := by rw [l2]
    rw [e, turn2_at (by omega) hj, l2, turn2_at (by omega) (by omega)]
    have e1 : bd.length - 1 - (bd.length - 1 - i) = i := by omega
    have e2 : W - 1 - (W - 1 - j) = j := by omega
    rw [e1, e2]
theorem rev_rev (r : Str) : revS (revS r) = r := by
  obtain ⟨⟨l⟩⟩ := r
  show (⟨(l.reverse.toArray.toList).reverse.toArray⟩ : Str) = ⟨⟨l⟩⟩
  simp
theorem mirr_mirr (bd : List Str) : mirrL (mirrL bd) = bd := by
  unfold mirrL
  rw [List.map_map]
  have : (revS ∘ revS) = id := by funext r; exact rev_rev r
  rw [this, List.map_id]
/-! ### how often a sign is on a board -/
theorem cat_list : ∀ bd : List Str, (catS bd).cps.toList = bd.flatMap fun r => r.cps.toList
  | [] => rfl
  | r :: l => by
    have : (catS (r :: l)).cps = r.cps ++ (catS l).cps := rfl
    rw [this, Array.toList_append, cat_list l, List.flatMap_cons]
theorem sum_add (f g : Nat → Nat) : ∀ l : List Nat, (l.map fun i => f i + g i).sum = (l.map f).sum + (l.map g).sum
  | [] => rfl
  | a :: l => by
    simp only [List.map_cons, List.sum_cons, sum_add f g l]
    omega
theorem sum_ind (x : Nat) : ∀ l : List Nat, ((List.range l.length).map fun i => if l.getD i 0 = x then 1 else 0).sum = l.count x
  | [] => rfl
  | a :: l => by
    rw [List.length_cons, List.range_succ_eq_map, List.map_cons, List.sum_cons, List.map_map]
    have e : ((fun i => if (a :: l).getD i 0 = x then 1 else 0) ∘ Nat.succ) = fun i => if l.getD i 0 = x then 1 else 0 := by
      funext i
      simp
    rw [e, sum_ind x l, List.count_cons]
    simp only [List.getD_cons_zero]
    by_cases h : a = x
    · simp [h]; omega
    · simp [h]
theorem sum_zero : ∀ l : List Nat, (l.map fun _ => 0).sum = 0
  | [] => rfl
  | a :: l => by simp [sum_zero l]
theorem cols_count (x : Nat) {W : Nat} : ∀ bd : List Str, (∀ r ∈ bd, r.length = W) → ((List.range W).map fun i => (bd.map fun r => ch r i).count x).sum = (bd.map fun r => r.cps.toList.count x).sum
  | [], _ => sum_zero _
  | r :: l, h => by
    have ih := cols_count x l fun s hs => h s (List.mem_cons_of_mem _ hs)
    have hr : r.cps.toList.length = W := by rw [Array.length_toList]; exact h r (List.mem_cons_self ..)
    have e : (fun i => ((r :: l).map fun r => ch r i).count x) = fun i => (l.map fun r => ch r i).count x + (if r.cps.toList.getD i 0 = x then 1 else 0) := by
      funext i
      rw [List.map_cons, List.count_cons]
      show _ = _ + if ch r i = x then 1 else 0
      by_cases hx : ch r i = x <;> simp [hx]
    rw [e, sum_add, ih, List.map_cons, List.sum_cons, ← sum_ind x r.cps.toList, hr]
    omega
theorem turn_count {bd : List Str} {W : Nat} (h : ∀ r ∈ bd, r.length = W) (x : Nat) : (catS (turnL bd W)).cps.toList.count x = (catS bd).cps.toList.count x := by
  rw [cat_list, cat_list, List.count_flatMap, List.count_flatMap]
  show _ = (bd.map fun r => r.cps.toList.count x).sum
  rw [← cols_count x bd h]
  unfold turnL
  rw [List.map_map]
  congr 1
  refine List.map_congr_left fun i _ => ?_
  show (bd.reverse.map fun r => ch r i).count x = _
  rw [List.map_reverse, List.count_reverse]
end K1


set_option Elab.async false
set_option linter.all false
set_option maxRecDepth 100000
/-! The mathematics of k02: turned, mirrored, stacked, letters -/
namespace K1
open PySem L2 L3
theorem txts_map : ∀ l : List Str, txts (l.map D.str) = some l
  | [] => rfl
  | x :: l => by
    show (txts (l.map D.str)).map _ = _
    rw [txts_map l]
    rfl
theorem cat_one : ∀ l : List Nat, catS (l.map fun n => (⟨#[n]⟩ : Str)) = ⟨l.toArray⟩
  | [] => rfl
  | n :: l => by
    show (⟨#[n]⟩ : Str) ++ catS (l.map fun n => (⟨#[n]⟩ : Str)) = _
    rw [cat_one l]
    show (⟨#[n] ++ l.toArray⟩ : Str) = _
    simp
theorem sum_one (l : List Nat) : ((l.map fun n => (⟨#[n]⟩ : Str)).map fun x : Str => x.length).sum = l.length := by
  induction l with
  | nil => rfl
  | cons n l ih =>
    rw [List.map_cons, List.map_cons, List.sum_cons, ih]
    show 1 + l.length = _
    simp
    omega
theorem sgn_val {x : Str} {c : Nat} (h : c < x.length) : gIxS (.str x) (.int (c : Int)) = M.ret (.str ⟨#[ch x c]⟩) := by
  have h' : c < x.cps.toList.length := by rw [Array.length_toList]; exact h
  show (match L2.atI x.cps.toList (c : Int) with | some c => M.ret (D.str ⟨#[c]⟩) | none => M.stuck) = _
  rw [atI_nat' (List.getElem?_eq_getElem h')]
  unfold ch
  rw [List.getD_eq_getElem?_getD, List.getElem?_eq_getElem h']
  rfl
theorem join_val {l : List Str} {d : D} (hd : d = .lst (l.map D.str) ∨ d = .tup (l.map D.str)) (hl : (l.map fun x : Str => x.length).sum ≤ lim) : joinM (.str "") [d] = M.ret (.str (catS l)) := by
  have k : (match txts (l.map D.str) with | some (xs : List Str) => if ("" : Str).length = 0 ∧ (xs.map (fun x : Str => x.length)).sum ≤ lim then M.ret (D.str (catS xs)) else M.stuck | none => M.stuck) = M.ret (.str (catS l)) := by
    rw [txts_map]
    exact if_pos ⟨rfl, hl⟩
  rcases hd with rfl | rfl
  · exact k
  · exact k
theorem col_val {bd : List Str} {W c : Nat} (hg : Good bd W) (hc : c < W) : f_column_from_below [brd bd, .int (c : Int)] = M.ret (.str (colS bd c)) := by
  have h5 := hg.r5
  refine runD_rt (sRet_val ?_)
  have cm : dComp 0 (fun ρ => (aC (dV 0) aN) ρ >>= revI) dTrue (d2 gIxS (dV 0) (dV 2)) [fz (brd bd), fz (.int (c : Int))] = M.ret (.lst (((bd.reverse.map fun r => ch r c).map fun n => (⟨#[n]⟩ : Str)).map D.str)) := by
    refine dComp_val (ds := (bd.map D.str).reverse) rfl ?_ (by simp [limv]; omega)
    have := compL_map (f := compF 0 dTrue (d2 gIxS (dV 0) (dV 2)) [fz (brd bd), fz (.int (c : Int))]) (g := fun d => match d with | .str r => D.str ⟨#[ch r c]⟩ | _ => .non) (bd.map D.str).reverse fun d hd => by
      obtain ⟨r, hr, rfl⟩ := List.mem_map.mp (List.mem_reverse.mp hd)
      rw [compF0]
      have := sgn_val (x := r) (c := c) (by rw [(hg.rows r hr).len]; exact hc)
      show (gIxS (.str r) (.int (c : Int)) >>= _) = _
      rw [this]
      rfl
    rw [this]
    rw [← List.map_reverse, List.map_map, List.map_map, List.map_map]
    rfl
  show (dM isS joinM (dC (.str "")) (aC (dComp 0 (fun ρ => (aC (dV 0) aN) ρ >>= revI) dTrue (d2 gIxS (dV 0) (dV 2))) aN)) [fz (brd bd), fz (.int (c : Int))] = _
  unfold dM
  rw [aC_val cm rfl]
  show joinM (.str "") [.lst (((bd.reverse.map fun r => ch r c).map fun n => (⟨#[n]⟩ : Str)).map D.str)] = _
  rw [join_val (.inl rfl) (by rw [sum_one, List.length_map, List.length_reverse, limv]; omega), cat_one]
  rfl
theorem good_turn {bd : List Str} {W : Nat} (hg : Good bd W) : Good (turnL bd W) bd.length := by
  refine ⟨by rw [turn_len]; exact hg.w1, by rw [turn_len]; exact hg.w5, hg.r1, hg.r5, fun r hr => ?_⟩
  obtain ⟨c, hc, rfl⟩ := turn_rows hr
  refine ⟨col_len bd c, fun n hn => ?_⟩
  have hn : n ∈ bd.reverse.map fun r => ch r c := hn
  obtain ⟨r, hr, rfl⟩ := List.mem_map.mp hn
  have hr := List.mem_reverse.mp hr
  have hrr := hg.rows r hr
  refine hrr.let' _ ?_
  have h' : c < r.cps.toList.length := by rw [Array.length_toList]; exact Nat.lt_of_lt_of_eq hc hrr.len.symm
  unfold ch
  rw [List.getD_eq_getElem?_getD, List.getElem?_eq_getElem h']
  exact List.getElem_mem h'
theorem good_mirr {bd : List Str} {W : Nat} (hg : Good bd W) : Good (mirrL bd) W := by
  refine ⟨by unfold mirrL; rw [List.length_map]; exact hg.r1, by unfold mirrL; rw [List.length_map]; exact hg.r5, hg.w1, hg.w5, fun r hr => ?_⟩
  obtain ⟨s, hs, rfl⟩ := List.mem_map.mp hr
  refine ⟨by rw [revS_len]; exact (hg.rows s hs).len, fun n hn => (hg.rows s hs).let' n ?_⟩
  have hn : n ∈ s.cps.toList.reverse.toArray.toList := hn
  simpa using hn
theorem turned_val {bd : List Str} {W : Nat} (hg : Good bd W) : f_turned [brd bd] = M.ret (brd (turnL bd W)) := by
  have w5 := hg.w5
  refine runD_rt (sSeq_nx (ρ' := [fz (brd bd)]) (sExp_val (show callF 1 f_need_board (aC (dV 0) aN) [fz (brd bd)] = M.ret .non from nb hg)) (sRet_val ?_))
  have cm : dComp 0 (fun ρ => (aC (dA lenM (aC (d2 gIxT (dV 0) (dC (.int 0))) aN)) aN) ρ >>= rngM1) dTrue (callF 2 f_column_from_below (aC (dV 1) (aC (dV 0) aN))) [fz (brd bd)] = M.ret (.lst ((turnL bd W).map D.str)) := by
    refine dComp_val (rng_of (len0 hg rfl) (by omega)) ?_ (by rw [List.length_map, turn_len, limv]; omega)
    have := compL_map (f := compF 0 dTrue (callF 2 f_column_from_below (aC (dV 1) (aC (dV 0) aN))) [fz (brd bd)]) (g := fun d => match d with | .int i => D.str (colS bd i.toNat) | _ => .non) (rngL 0 W) fun d hd => by
      obtain ⟨i, hi, rfl⟩ := rngL_mem hd
      rw [compF0]
      have e : (0 : Int) + (i : Int) = (i : Int) := by omega
      rw [e]
      show (f_column_from_below [brd bd, .int (i : Int)] >>= _) = _
      rw [col_val hg hi]
      rfl
    rw [this]
    unfold rngL turnL
    rw [List.map_map, List.map_map]
    congr 1
    refine List.map_congr_left fun i _ => ?_
    show D.str (colS bd ((0 : Int) + (i : Int)).toNat) = D.str (colS bd i)
    rw [show ((0 : Int) + (i : Int)).toNat = i by omega]
  rw [dA_val (aC_val cm rfl)]
  rfl
theorem mirr_comp {bd : List Str} (h5 : bd.length ≤ 5) {k : Nat} {ρ : Rho} (hρ : ρ[k]? = some (fz (brd bd))) : dComp 0 (dItT (dV k)) dTrue (dRev (dV 0) (d1 negM (dC (.int 1)))) ρ = M.ret (.lst ((mirrL bd).map D.str)) := by
  refine dComp_val (ds := bd.map D.str) (itT hρ) ?_ (by unfold mirrL; simp [limv]; omega)
  have := compL_map (f := compF 0 dTrue (dRev (dV 0) (d1 negM (dC (.int 1)))) ρ) (g := fun d => match d with | .str r => D.str (revS r) | _ => .non) (bd.map D.str) fun d hd => by
    obtain ⟨r, hr, rfl⟩ := List.mem_map.mp hd
    rfl
  rw [this]
  unfold mirrL
  rw [List.map_map, List.map_map]
  rfl
theorem mirrored_val {bd : List Str} {W : Nat} (hg : Good bd W) : f_mirrored [brd bd] = M.ret (brd (mirrL bd)) := by
  refine runD_rt (sSeq_nx (ρ' := [fz (brd bd)]) (sExp_val (show callF 1 f_need_board (aC (dV 0) aN) [fz (brd bd)] = M.ret .non from nb hg)) (sRet_val ?_))
  have cm := mirr_comp (bd := bd) hg.r5 (k := 0) (ρ := [fz (brd bd)]) rfl
  rw [dA_val (aC_val cm rfl)]
  rfl
/-! ### letters -/
theorem compL_fm {f : D → M (Option D)} {p : D → Bool} {g : D → D} : ∀ (ds : List D), (∀ d ∈ ds, f d = M.ret (if p d then some (g d) else none)) → compL f ds = M.ret ((ds.filter p).map g)
  | [], _ => rfl
  | d :: ds, h => by
    rw [compL_cons, h d (List.mem_cons_self ..), bind_ret, compL_fm ds fun d' hd => h d' (List.mem_cons_of_mem _ hd), List.filter_cons]
    cases p d <;> rfl
def inX (x : Str) : D → Bool
  | .str y => !(Builtin.Str.occurrences x y 0 x.length 1).isEmpty
  | _ => false
def cnX (x : Str) : D → Int
  | .str y => (cntS x y : Int)
  | _ => 0
def letL (x : Str) : List D := ((signs "abcdef").filter (inX x)).map fun d => .tup [d, .int (cnX x d)]
theorem let_comp {x : Str} {k : Nat} {ρ : Rho} (hρ : ρ[k]? = some (fz (.str x))) :
    dComp 0 (fun ρ => (dC (.str "abcdef")) ρ >>= sgnM) (tB' (d2 (gInS false) (dV 0) (dV (k + 1)))) (dA mkTup (aC (dV 0) (aC (dM isS cntSM (dV (k + 1)) (aC (dV 0) aN)) aN))) ρ = M.ret (.lst (letL x)) := by
  refine dComp_val (ds := signs "abcdef") rfl ?_ ?_
  · refine compL_fm (signs "abcdef") fun d hd => ?_
    obtain ⟨c, _, rfl⟩ := List.mem_map.mp hd
    rw [compFt]
    have hv : dV (k + 1) (fz (.str ⟨#[c]⟩) :: ρ) = M.ret (.str x) := dV_val (by rw [List.getElem?_cons_succ]; exact hρ)
    have hv0 : dV 0 (fz (.str ⟨#[c]⟩) :: ρ) = M.ret (.str ⟨#[c]⟩) := rfl
    have e1 : tB' (d2 (gInS false) (dV 0) (dV (k + 1))) (fz (.str ⟨#[c]⟩) :: ρ) = M.ret (inX x (.str ⟨#[c]⟩)) := by
      unfold tB'
      rw [d2_val hv0 hv]
      rfl
    have e2 : dA mkTup (aC (dV 0) (aC (dM isS cntSM (dV (k + 1)) (aC (dV 0) aN)) aN)) (fz (.str ⟨#[c]⟩) :: ρ) = M.ret (.tup [.str ⟨#[c]⟩, .int (cnX x (.str ⟨#[c]⟩))]) := by
      have e3 : dM isS cntSM (dV (k + 1)) (aC (dV 0) aN) (fz (.str ⟨#[c]⟩) :: ρ) = M.ret (.int (cnX x (.str ⟨#[c]⟩))) := by
        unfold dM
        rw [hv, bind_ret]
        rfl
      exact (dA_val (aC_val hv0 (aC_val (xs := []) e3 rfl))).trans rfl
    rw [e1, e2]
    exact if_some
  · unfold letL
    rw [List.length_map, limv]
    exact Nat.le_trans (List.length_filter_le ..) (by decide)
theorem cat_len {bd : List Str} {W : Nat} (hg : Good bd W) : (bd.map fun x : Str => x.length).sum ≤ lim := by
  have : ∀ l : List Str, (∀ r ∈ l, r.length = W) → (l.map fun x : Str => x.length).sum = l.length * W := by
    intro l
    induction l with
    | nil => intro _; simp
    | cons r l ih =>
      intro h
      rw [List.map_cons, List.sum_cons, ih fun s hs => h s (List.mem_cons_of_mem _ hs), h r (List.mem_cons_self ..), List.length_cons, Nat.succ_mul]
      omega
  rw [this bd fun r hr => (hg.rows r hr).len, limv]
  have h5 := hg.r5
  have w5 := hg.w5
  have : bd.length * W ≤ 5 * 5 := Nat.mul_le_mul h5 w5
  omega
theorem letters_val {bd : List Str} {W : Nat} (hg : Good bd W) : f_letters [brd bd] = M.ret (.lst (letL (catS bd))) := by
  refine runD_rt (sSeq_nx (ρ' := [fz (brd bd), none]) (sExp_val (show callF 1 f_need_board (aC (dV 0) aN) [fz (brd bd), none] = M.ret .non from nb hg)) ?_)
  refine sSeq_nx (ρ' := [fz (brd bd), fz (.str (catS bd))]) ((sSet_val (d := .str (catS bd)) (join_val (.inr rfl) (cat_len hg))).trans rfl) (sRet_val ?_)
  exact let_comp (k := 1) rfl
theorem let_turn {bd : List Str} {W : Nat} (hg : Good bd W) : letL (catS (turnL bd W)) = letL (catS bd) := by
  have hc := turn_count (bd := bd) (W := W) fun r hr => (hg.rows r hr).len
  have e1 : ∀ c, inX (catS (turnL bd W)) (.str ⟨#[c]⟩) = inX (catS bd) (.str ⟨#[c]⟩) := fun c => by
    show (!(Builtin.Str.occurrences _ ⟨#[c]⟩ 0 _ 1).isEmpty) = (!(Builtin.Str.occurrences _ ⟨#[c]⟩ 0 _ 1).isEmpty)
    rw [StrLaws.found_one, StrLaws.found_one]
    have := hc c
    congr 1
    rw [← List.count_pos_iff, ← List.count_pos_iff, this]
  have e2 : ∀ c, cnX (catS (turnL bd W)) (.str ⟨#[c]⟩) = cnX (catS bd) (.str ⟨#[c]⟩) := fun c => by
    show ((cntS _ ⟨#[c]⟩ : Nat) : Int) = ((cntS _ ⟨#[c]⟩ : Nat) : Int)
    unfold cntS
    rw [cnt_one, cnt_one, hc c]
  unfold letL
  have f1 : (signs "abcdef").filter (inX (catS (turnL bd W))) = (signs "abcdef").filter (inX (catS bd)) := List.filter_congr fun d hd => by
    obtain ⟨c, _, rfl⟩ := List.mem_map.mp hd
    exact e1 c
  rw [f1]
  refine List.map_congr_left fun d hd => ?_
  obtain ⟨c, _, rfl⟩ := List.mem_map.mp (List.mem_filter.mp hd).1
  rw [e2 c]
theorem ne_let (x : Str) : gNe (.lst (letL x)) (.lst (letL x)) = M.ret (.bl false) := ne_of_self (eqL_self _ fun d hd => by
  obtain ⟨d', hd', rfl⟩ := List.mem_map.mp hd
  obtain ⟨c, _, rfl⟩ := List.mem_map.mp (List.mem_filter.mp hd').1
  refine eqL_self _ fun y hy => ?_
  rcases List.mem_cons.mp hy with rfl | hy
  · show some _ = some true; simp
  · have : y = .int (cnX x (.str ⟨#[c]⟩)) := by simpa using hy
    subst this
    show some _ = some true
    simp)
theorem ne_brd (bd : List Str) : gNe (brd bd) (brd bd) = M.ret (.bl false) := ne_of_self eq_strs
/-! ### refusals -/
theorem no_b {d : D} (h : Plain2 d) (hb : boardD d = false) : f_need_board [d] = M.raise 0 := by
  have e := need_board_val h
  rw [hb] at e
  exact e
theorem turned_no {d : D} (h : Plain2 d) (hb : boardD d = false) : f_turned [d] = M.raise 0 :=
  runD_ex (sSeq_ex (sExp_ex (show callF 1 f_need_board (aC (dV 0) aN) [fz d] = M.raise 0 from no_b h hb)))
theorem mirrored_no {d : D} (h : Plain2 d) (hb : boardD d = false) : f_mirrored [d] = M.raise 0 :=
  runD_ex (sSeq_ex (sExp_ex (show callF 1 f_need_board (aC (dV 0) aN) [fz d] = M.raise 0 from no_b h hb)))
theorem letters_no {d : D} (h : Plain2 d) (hb : boardD d = false) : f_letters [d] = M.raise 0 :=
  runD_ex (sSeq_ex (sExp_ex (show callF 1 f_need_board (aC (dV 0) aN) [fz d, none] = M.raise 0 from no_b h hb)))
theorem stacked_no1 {d e : D} (h : Plain2 d) (hb : boardD d = false) : f_stacked [d, e] = M.raise 0 :=
  runD_ex (sSeq_ex (sExp_ex (show callF 1 f_need_board (aC (dV 0) aN) [fz d, fz e] = M.raise 0 from no_b h hb)))
theorem stacked_no2 {bd : List Str} {W : Nat} {e : D} (hg : Good bd W) (h : Plain2 e) (hb : boardD e = false) : f_stacked [brd bd, e] = M.raise 0 :=
  runD_ex (sSeq_nx (ρ' := [fz (brd bd), fz e]) (sExp_val (show callF 1 f_need_board (aC (dV 0) aN) [fz (brd bd), fz e] = M.ret .non from nb hg)) (sSeq_ex (sExp_ex (show callF 1 f_need_board (aC (dV 1) aN) [fz (brd bd), fz e] = M.raise 0 from no_b h hb))))
/-! ### stacked -/
structure Brd (ob : List Str) (V : Nat) : Prop where
  r1 : 1 ≤ ob.length
  r8 : ob.length ≤ 8
  w1 : 1 ≤ V
  w8 : V ≤ 8
  rows : ∀ r ∈ ob, Row V r
theorem Good.brd {bd : List Str} {W : Nat} (hg : Good bd W) : Brd bd W := ⟨hg.r1, by have := hg.r5; omega, hg.w1, by have := hg.w5; omega, hg.rows⟩
theorem Brd.board {ob : List Str} {V : Nat} (h : Brd ob V) : boardD (brd ob) = true := by
  have hrow : ∀ r ∈ ob, rowD (.str r) = true := fun r hr => by
    have q := h.rows r hr
    show ((decide (1 ≤ r.length) && decide (r.length ≤ 8)) && letters r) = true
    rw [q.len]
    have a : decide (1 ≤ V) = true := decide_eq_true h.w1
    have b : decide (V ≤ 8) = true := decide_eq_true h.w8
    rw [a, b]
    show letters r = true
    exact List.all_eq_true.mpr fun c hc => q.let' c hc
  have h0 : lenD ((ob.map D.str).headD .non) = V := by
    have := h.r1
    have hr := h.rows
    cases ob with
    | nil => simp at this
    | cons x l => exact (hr x (List.mem_cons_self ..)).len
  show ((decide (1 ≤ (ob.map D.str).length) && decide ((ob.map D.str).length ≤ 8)) && ((ob.map D.str).all rowD && (ob.map D.str).all fun d => lenD d == lenD ((ob.map D.str).headD .non))) = true
  rw [h0, List.length_map, decide_eq_true h.r1, decide_eq_true h.r8]
  have a : (ob.map D.str).all rowD = true := List.all_eq_true.mpr fun d hd => by
    obtain ⟨r, hr, rfl⟩ := List.mem_map.mp hd
    exact hrow r hr
  have b : ((ob.map D.str).all fun d => lenD d == V) = true := List.all_eq_true.mpr fun d hd => by
    obtain ⟨r, hr, rfl⟩ := List.mem_map.mp hd
    show (r.length == V) = true
    rw [(h.rows r hr).len]
    simp
  rw [a, b]
  rfl
theorem Brd.nb {ob : List Str} {V : Nat} (h : Brd ob V) : f_need_board [brd ob] = M.ret .non := by
  have e := need_board_val (d := brd ob) good_plain
  rw [h.board] at e
  exact e
theorem Brd.len0 {ob : List Str} {V : Nat} (h : Brd ob V) {i : Nat} {ρ : Rho} (hρ : ρ[i]? = some (fz (brd ob))) : dA lenM (aC (d2 gIxT (dV i) (dC (.int 0))) aN) ρ = M.ret (.int (V : Int)) := by
  have h1 := h.r1
  have hr := h.rows
  obtain ⟨x, l, e⟩ : ∃ x l, ob = x :: l := by
    cases ob with
    | nil => simp at h1
    | cons x l => exact ⟨x, l, rfl⟩
  have hx : x.length = V := (hr x (by rw [e]; exact List.mem_cons_self ..)).len
  have i0 : gIxT (brd ob) (.int 0) = M.ret (.str x) := ix0 (show ob.map D.str = D.str x :: l.map D.str by rw [e]; rfl)
  have k := d2_val (g := gIxT) (dV_val hρ) (show dC (.int 0) ρ = M.ret (.int 0) from rfl)
  rw [i0] at k
  rw [dA_val (aC_val (xs := []) k rfl)]
  show M.ret (D.int (x.length : Int)) = _
  rw [hx]
theorem cat_brd {a b : List Str} (h : a.length + b.length ≤ lim) : gCatT (brd a) (brd b) = M.ret (brd (a ++ b)) := by
  show (if (a.map D.str).length + (b.map D.str).length ≤ lim then M.ret (D.tup (a.map D.str ++ b.map D.str)) else M.stuck) = _
  rw [List.length_map, List.length_map, if_pos h, ← List.map_append]
theorem stacked_val {bd ob : List Str} {W V : Nat} (hg : Brd bd W) (ho : Brd ob V) : f_stacked [brd bd, brd ob] = if W = V ∧ bd.length + ob.length ≤ 8 then M.ret (brd (bd ++ ob)) else M.raise 5 := by
  have n1 : callF 1 f_need_board (aC (dV 0) aN) [fz (brd bd), fz (brd ob)] = M.ret .non := hg.nb
  have n2 : callF 1 f_need_board (aC (dV 1) aN) [fz (brd bd), fz (brd ob)] = M.ret .non := ho.nb
  have l0 := hg.len0 (i := 0) (ρ := [fz (brd bd), fz (brd ob)]) rfl
  have l1 := ho.len0 (i := 1) (ρ := [fz (brd bd), fz (brd ob)]) rfl
  have t1 : tB' (d2 gNe (dA lenM (aC (d2 gIxT (dV 0) (dC (.int 0))) aN)) (dA lenM (aC (d2 gIxT (dV 1) (dC (.int 0))) aN))) [fz (brd bd), fz (brd ob)] = M.ret (!(W == V)) := by
    unfold tB'
    rw [d2_val l0 l1, ne_int, natEq]
    rfl
  have t2 : tB' (d2 gGt (d2 gAdd (dA lenM (aC (dV 0) aN)) (dA lenM (aC (dV 1) aN))) (dC (.int 8))) [fz (brd bd), fz (brd ob)] = M.ret (decide (8 < bd.length + ob.length)) := by
    unfold tB'
    rw [d2_val (x := .int ((bd.length : Int) + (ob.length : Int))) (y := .int 8) ((d2_val (lenR rfl) (lenR rfl)).trans rfl) rfl]
    show M.ret (decide ((8 : Int) < (bd.length : Int) + (ob.length : Int))) = _
    congr 1
    by_cases h : 8 < bd.length + ob.length
    · rw [decide_eq_true h, decide_eq_true (by omega)]
    · rw [decide_eq_false h, decide_eq_false (by omega)]
  by_cases hW : W = V
  · have q1 : (!(W == V)) = false := by simp [hW]
    rw [q1] at t1
    by_cases hl : bd.length + ob.length ≤ 8
    · rw [decide_eq_false (show ¬ 8 < bd.length + ob.length by omega)] at t2
      rw [if_pos ⟨hW, hl⟩]
      exact runD_rt (sSeq_nx (ρ' := [fz (brd bd), fz (brd ob)]) (sExp_val n1) (sSeq_nx (sExp_val n2) (sSeq_nx (sExp_val (show callF 2 f_need_fit (aC (dV 0) (aC (dV 1) aN)) [fz (brd bd), fz (brd ob)] = M.ret .non from runD_nx (sSeq_nx (ρ' := [fz (brd bd), fz (brd ob)]) (sIf_F t1 rfl) (sIf_F t2 rfl)))) (sRet_val (cat_brd (by rw [limv]; omega))))))
    · rw [decide_eq_true (show 8 < bd.length + ob.length by omega)] at t2
      rw [if_neg (fun z => hl z.2)]
      exact runD_ex (sSeq_nx (ρ' := [fz (brd bd), fz (brd ob)]) (sExp_val n1) (sSeq_nx (sExp_val n2) (sSeq_ex (sExp_ex (show callF 2 f_need_fit (aC (dV 0) (aC (dV 1) aN)) [fz (brd bd), fz (brd ob)] = M.raise 5 from runD_ex (sSeq_nx (ρ' := [fz (brd bd), fz (brd ob)]) (sIf_F t1 rfl) (sIf_T t2 rfl)))))))
  · have q1 : (!(W == V)) = true := by simp [hW]
    rw [q1] at t1
    rw [if_neg (fun z => hW z.1)]
    exact runD_ex (sSeq_nx (ρ' := [fz (brd bd), fz (brd ob)]) (sExp_val n1) (sSeq_nx (sExp_val n2) (sSeq_ex (sExp_ex (show callF 2 f_need_fit (aC (dV 0) (aC (dV 1) aN)) [fz (brd bd), fz (brd ob)] = M.raise 5 from runD_ex (sSeq_ex (sIf_T t1 rfl)))))))
/-! ### told -/
theorem told0 {b o : D} : f_law_told [.int 0, b, o] = tryV (f_turned [b]) := by
  show ((match (f_turned [b] >>= fun d => M.ret (Out.rt d)) with | some (.ex n) => noex (hdM n) >>= fun d => M.ret (Out.rt d) | r => r) >>= fun o => match o with | .nx _ => M.ret D.non | .rt d => M.ret d) = _
  match f_turned [b] with
  | none => rfl
  | some (.ok a) => rfl
  | some (.ex n) => rfl
theorem told1 {b o : D} : f_law_told [.int 1, b, o] = tryV (f_mirrored [b]) := by
  show ((match (f_mirrored [b] >>= fun d => M.ret (Out.rt d)) with | some (.ex n) => noex (hdM n) >>= fun d => M.ret (Out.rt d) | r => r) >>= fun o => match o with | .nx _ => M.ret D.non | .rt d => M.ret d) = _
  match f_mirrored [b] with
  | none => rfl
  | some (.ok a) => rfl
  | some (.ex n) => rfl
theorem told2 {b o : D} : f_law_told [.int 2, b, o] = tryV (f_letters [b]) := by
  show ((match (f_letters [b] >>= fun d => M.ret (Out.rt d)) with | some (.ex n) => noex (hdM n) >>= fun d => M.ret (Out.rt d) | r => r) >>= fun o => match o with | .nx _ => M.ret D.non | .rt d => M.ret d) = _
  match f_letters [b] with
  | none => rfl
  | some (.ok a) => rfl
  | some (.ex n) => rfl
theorem told3 {b o : D} : f_law_told [.int 3, b, o] = tryV (f_stacked [b, o]) := by
  show ((match (f_stacked [b, o] >>= fun d => M.ret (Out.rt d)) >>= (fun o => match o with | .nx ρ' => _ | .rt d => M.ret (Out.rt d)) with | some (.ex n) => noex (hdM n) >>= fun d => M.ret (Out.rt d) | r => r) >>= fun o => match o with | .nx _ => M.ret D.non | .rt d => M.ret d) = _
  match f_stacked [b, o] with
  | none => rfl
  | some (.ok a) => rfl
  | some (.ex n) => rfl
end K1


set_option Elab.async false
set_option linter.all false
set_option maxRecDepth 100000
/-! The mathematics of k02: the law -/
namespace K1
open PySem L2 L3
abbrev lr (ns : List Int) (v1 v2 v3 v4 v5 v6 v7 v8 v9 : Option Sl) : Rho := [fz (.scr ns), v1, v2, v3, v4, v5, v6, v7, v8, v9]
theorem cut_one {bd : List Str} (h : 1 ≤ bd.length) : cutD (bd.map D.str) none (some 1) = (bd.take 1).map D.str := by
  have e : HT.sIx (bd.map D.str).length (bd.map D.str).length (some 1) = 1 := by
    rw [List.length_map]
    show (if (1 : Int) < 0 then ((1 : Int) + (bd.length : Int)).toNat else min (1 : Int).toNat bd.length) = 1
    rw [if_neg (by decide)]
    show min 1 bd.length = 1
    omega
  unfold cutD
  rw [e]
  show ((bd.map D.str).drop 0).take (1 - 0) = _
  rw [List.drop_zero, List.map_take]
theorem ixT_at {bd : List Str} {i : Nat} (h : i < bd.length) : gIxT (brd bd) (.int (i : Int)) = M.ret (.str (bd.getD i ⟨#[]⟩)) := by
  show (match L2.atI (bd.map D.str) (i : Int) with | some d => M.ret d | none => M.stuck) = _
  rw [atI_nat' (x := .str (bd.getD i ⟨#[]⟩)) ?_]
  rw [List.getElem?_map, List.getElem?_eq_getElem h, List.getD_eq_getElem?_getD, List.getElem?_eq_getElem h]
  rfl
theorem getD_mem {bd : List Str} {i : Nat} (h : i < bd.length) : bd.getD i ⟨#[]⟩ ∈ bd := by
  rw [List.getD_eq_getElem?_getD, List.getElem?_eq_getElem h]
  exact List.getElem_mem h
theorem ne_str (x : Str) : gNe (.str x) (.str x) = M.ret (.bl false) := ne_of_self (by show some _ = some true; simp)
/-- the second board -/
theorem st2_val {ns : List Int} (hl : ns.length ≤ 63) {bd ob0 : List Str} {W V0 : Nat} (hg : Good bd W) (ho : Good ob0 V0) : ∃ ob V, Brd ob V ∧
    τ_law_2 (lr ns (fz (brd bd)) (fz (brd ob0)) none none none none none none none) = M.ret (.nx (lr ns (fz (brd bd)) (fz (brd ob)) none none none none none none none)) := by
  obtain ⟨k, hk, e⟩ := drawn_val ns hl 100 2 (by decide)
  have h1 := hg.r1
  have h5 := hg.r5
  have t : tB' (d2 gEq (callF 3 f_law_drawn (aC (dV 0) (aC (dC (.int 100)) (aC (dC (.int 2)) aN)))) (dC (.int 0))) (lr ns (fz (brd bd)) (fz (brd ob0)) none none none none none none none) = M.ret ((k : Int) == 0) := by
    unfold tB'
    rw [d2_val (x := .int (k : Int)) (y := .int 0) e rfl]
    rfl
  match k, hk with
  | 0, _ =>
    refine ⟨bd.reverse ++ bd.take 1, W, ⟨by simp; omega, by simp; omega, hg.w1, by have := hg.w5; omega, fun r hr => ?_⟩, sIf_T t ?_⟩
    · rcases List.mem_append.mp hr with h | h
      · exact hg.rows r (List.mem_reverse.mp h)
      · exact hg.rows r (List.mem_of_mem_take h)
    · refine (sSet_val (d := brd (bd.reverse ++ bd.take 1)) ?_).trans rfl
      have a1 : dRev (dV 1) (d1 negM (dC (.int 1))) (lr ns (fz (brd bd)) (fz (brd ob0)) none none none none none none none) = M.ret (brd bd.reverse) := by
        show M.ret (D.tup (bd.map D.str).reverse) = _
        rw [← List.map_reverse]
      have a2 : dSl (dV 1) oN (oS (dC (.int 1))) (lr ns (fz (brd bd)) (fz (brd ob0)) none none none none none none none) = M.ret (brd (bd.take 1)) := by
        show M.ret (D.tup (cutD (bd.map D.str) none (some 1))) = _
        rw [cut_one h1]
      rw [d2_val a1 a2]
      exact cat_brd (by simp [limv]; omega)
  | 1, _ => exact ⟨ob0, V0, ho.brd, sIf_F t rfl⟩
/-- cell by cell -/
theorem st5_val {ns : List Int} {bd : List Str} {W : Nat} (hg : Good bd W) {v2 : Option Sl} : ∃ v4 v5,
    τ_law_5 (lr ns (fz (brd bd)) v2 (fz (brd (turnL bd W))) none none none none none none) = M.ret (.nx (lr ns (fz (brd bd)) v2 (fz (brd (turnL bd W))) v4 v5 none none none none)) := by
  obtain ⟨ρ', e, v4, v5, hρ⟩ := forL_inv (put := putT 4 5) (body := sIf (tB' (d2 gNe (d2 gIxS (d2 gIxT (dV 3) (dV 5)) (d2 gSub (d2 gSub (dA lenM (aC (dV 1) aN)) (dC (.int 1))) (dV 4))) (d2 gIxS (d2 gIxT (dV 1) (dV 4)) (dV 5)))) (sRet (dC (.bl false))) sNil)
    (I := fun _ ρ => ∃ v4 v5, ρ = lr ns (fz (brd bd)) v2 (fz (brd (turnL bd W))) v4 v5 none none none none) (cellsL bd.length W) 0 (lr ns (fz (brd bd)) v2 (fz (brd (turnL bd W))) none none none none none none) ⟨none, none, rfl⟩ fun j d hd ρ ⟨v4, v5, hρ⟩ => by
      subst hρ
      have hm := List.mem_of_getElem? hd
      rw [cellsL_eq] at hm
      obtain ⟨⟨r, c⟩, mp, rfl⟩ := List.mem_map.mp hm
      obtain ⟨⟨r0, r1⟩, c0, c1⟩ := pairs_mem mp
      obtain ⟨i, rfl⟩ := Int.eq_ofNat_of_zero_le (show 0 ≤ r from r0)
      obtain ⟨k, rfl⟩ := Int.eq_ofNat_of_zero_le (show 0 ≤ c from c0)
      have hi : i < bd.length := by have : (i : Int) < (bd.length : Int) := r1; omega
      have hk : k < W := by have : (k : Int) < (W : Int) := c1; omega
      have hT := good_turn hg
      have hkT : k < (turnL bd W).length := by rw [turn_len]; exact hk
      refine ⟨lr ns (fz (brd bd)) v2 (fz (brd (turnL bd W))) (fz (.int (i : Int))) (fz (.int (k : Int))) none none none none, _, rfl, sIf_F ?_ rfl, _, _, rfl⟩
      have x1 : d2 gIxT (dV 3) (dV 5) (lr ns (fz (brd bd)) v2 (fz (brd (turnL bd W))) (fz (.int (i : Int))) (fz (.int (k : Int))) none none none none) = M.ret (.str ((turnL bd W).getD k ⟨#[]⟩)) := ixT_at hkT
      have x2 : d2 gIxT (dV 1) (dV 4) (lr ns (fz (brd bd)) v2 (fz (brd (turnL bd W))) (fz (.int (i : Int))) (fz (.int (k : Int))) none none none none) = M.ret (.str (bd.getD i ⟨#[]⟩)) := ixT_at hi
      have x3 : d2 gSub (d2 gSub (dA lenM (aC (dV 1) aN)) (dC (.int 1))) (dV 4) (lr ns (fz (brd bd)) v2 (fz (brd (turnL bd W))) (fz (.int (i : Int))) (fz (.int (k : Int))) none none none none) = M.ret (.int ((bd.length - 1 - i : Nat) : Int)) := by
        have q := lenR (bd := bd) (i := 1) (ρ := lr ns (fz (brd bd)) v2 (fz (brd (turnL bd W))) (fz (.int (i : Int))) (fz (.int (k : Int))) none none none none) rfl
        have q2 := d2_val (g := gSub) (b := dC (.int 1)) (y := .int 1) q rfl
        rw [gSub_val] at q2
        rw [d2_val q2 (y := .int (i : Int)) rfl, gSub_val]
        congr 2
        omega
      have y1 : gIxS (.str ((turnL bd W).getD k ⟨#[]⟩)) (.int ((bd.length - 1 - i : Nat) : Int)) = M.ret (.str ⟨#[at2 bd i k]⟩) := by
        rw [sgn_val (by rw [(hT.rows _ (getD_mem hkT)).len]; omega)]
        show M.ret (D.str ⟨#[at2 (turnL bd W) k (bd.length - 1 - i)]⟩) = _
        rw [turn_at hk (by omega), show bd.length - 1 - (bd.length - 1 - i) = i by omega]
      have y2 : gIxS (.str (bd.getD i ⟨#[]⟩)) (.int (k : Int)) = M.ret (.str ⟨#[at2 bd i k]⟩) := sgn_val (by rw [(hg.rows _ (getD_mem hi)).len]; exact hk)
      exact ne_F (x := .str ⟨#[at2 bd i k]⟩) ((d2_val x1 x3).trans y1) ((d2_val x2 (y := .int (k : Int)) rfl).trans y2) (ne_str _)
  subst hρ
  refine ⟨v4, v5, sFor_val (ds := cellsL bd.length W) ?_ e⟩
  have q : callF 1 f_law_cells (aC (dV 1) aN) (lr ns (fz (brd bd)) v2 (fz (brd (turnL bd W))) none none none none none none) = M.ret (.lst (cellsL bd.length W)) := law_cells_val hg
  unfold dItL
  rw [q]
  rfl
def five (bd : List Str) : List D := [.non, .tup [], .lst (bd.map D.str), brd (bd ++ [⟨#[]⟩]), .tup [.str "g"]]
theorem five_bad {bd : List Str} {W : Nat} (hg : Good bd W) {d : D} (h : d ∈ five bd) : Plain2 d ∧ boardD d = false := by
  unfold five at h
  simp only [List.mem_cons, List.not_mem_nil, or_false] at h
  rcases h with rfl | rfl | rfl | rfl | rfl
  · exact ⟨trivial, rfl⟩
  · exact ⟨(fun d hd => by cases hd), rfl⟩
  · exact ⟨trivial, rfl⟩
  · refine ⟨good_plain, ?_⟩
    have hr : rowD (.str ⟨#[]⟩) = false := rfl
    have : ((bd ++ [(⟨#[]⟩ : Str)]).map D.str).all rowD = false := by
      rw [List.map_append, List.all_append]
      show (_ && (rowD (.str ⟨#[]⟩) && true)) = false
      rw [hr]
      simp
    have k : ∀ ds : List D, ds.all rowD = false → boardD (.tup ds) = false := fun ds h => by
      show (_ && (ds.all rowD && _)) = false
      rw [h, Bool.false_and, Bool.and_false]
    exact k _ this
  · refine ⟨fun d hd => ?_, by decide +kernel⟩
    have : d = .str "g" := by simpa using hd
    subst this
    trivial
set_option maxHeartbeats 4000000 in
theorem law_true (ns : List Int) (hl : ns.length ≤ 63) : f_law [.scr ns] = M.ret (.bl true) := by
  obtain ⟨bd, W, hg, eb⟩ := board_val ns hl 0 5 (by decide) (by decide)
  obtain ⟨ob0, V0, hg0, eo⟩ := board_val ns hl 50 5 (by decide) (by decide)
  obtain ⟨ob, V, ho, e2⟩ := st2_val hl hg hg0
  have hT := good_turn hg
  have h5 := hg.r5
  have o8 := ho.r8
  obtain ⟨v4, v5, e5⟩ := st5_val (ns := ns) hg (v2 := fz (brd ob))
  obtain ⟨b, hb, e101⟩ := drawn_val ns hl 101 5 (by decide)
  obtain ⟨bad, mbad, ebad⟩ := ixL_val (l := five bd) (v := b) hb
  obtain ⟨pbad, nbad⟩ := five_bad hg mbad
  refine runD_rt ?_
  refine sSeq_nx (ρ' := lr ns (fz (brd bd)) none none none none none none none none) ((sSet_val (d := brd bd) eb).trans rfl) ?_
  refine sSeq_nx (ρ' := lr ns (fz (brd bd)) (fz (brd ob0)) none none none none none none none) ((sSet_val (d := brd ob0) eo).trans rfl) ?_
  refine sSeq_nx e2 ?_
  have t0 : f_law_told [.int 0, brd bd, .non] = M.ret (brd (turnL bd W)) := told0.trans (told_ret (turned_val hg))
  refine sSeq_nx (ρ' := lr ns (fz (brd bd)) (fz (brd ob)) (fz (brd (turnL bd W))) none none none none none none) ((sSet_val (d := brd (turnL bd W)) t0).trans rfl) ?_
  refine sSeq_nx (sIf_F (?_ : _ = M.ret false) rfl) (sSeq_nx e5 ?_)
  · have a1 : dNot (dTru (callF 1 f_is_board (aC (dV 3) aN))) (lr ns (fz (brd bd)) (fz (brd ob)) (fz (brd (turnL bd W))) none none none none none none) = M.ret false := by
      have q : callF 1 f_is_board (aC (dV 3) aN) (lr ns (fz (brd bd)) (fz (brd ob)) (fz (brd (turnL bd W))) none none none none none none) = M.ret (.bl true) := (is_board_val (d := brd (turnL bd W)) good_plain).trans (by rw [hT.brd.board])
      unfold dNot dTru
      rw [q]
      rfl
    have a2 : tB' (d2 gNe (dA lenM (aC (dV 3) aN)) (dA lenM (aC (d2 gIxT (dV 1) (dC (.int 0))) aN))) (lr ns (fz (brd bd)) (fz (brd ob)) (fz (brd (turnL bd W))) none none none none none none) = M.ret false := by
      have q1 := lenR (bd := turnL bd W) (i := 3) (ρ := lr ns (fz (brd bd)) (fz (brd ob)) (fz (brd (turnL bd W))) none none none none none none) rfl
      rw [turn_len] at q1
      exact ne_F q1 (len0 hg rfl) (ne_of_self (by show some _ = some true; simp))
    have a3 : tB' (d2 gNe (dA lenM (aC (d2 gIxT (dV 3) (dC (.int 0))) aN)) (dA lenM (aC (dV 1) aN))) (lr ns (fz (brd bd)) (fz (brd ob)) (fz (brd (turnL bd W))) none none none none none none) = M.ret false :=
      ne_F (len0 hT rfl) (lenR rfl) (ne_of_self (by show some _ = some true; simp))
    exact dOr_val a1 (dOr_val a2 a3)
  have t1 : f_law_told [.int 1, brd bd, .non] = M.ret (brd (mirrL bd)) := told1.trans (told_ret (mirrored_val hg))
  refine sSeq_nx (sIf_F (?_ : _ = M.ret false) rfl) ?_
  · refine dOr_val (p := false) (q := false) (ne_F (x := brd (mirrL bd)) t1 ?_ (ne_brd _)) (ne_F (x := brd bd) ?_ rfl (ne_brd _))
    · have cm := mirr_comp (bd := bd) h5 (k := 1) (ρ := lr ns (fz (brd bd)) (fz (brd ob)) (fz (brd (turnL bd W))) v4 v5 none none none none) rfl
      rw [dA_val (aC_val (xs := []) cm rfl)]
      rfl
    · have m1 : callF 1 f_mirrored (aC (dV 1) aN) (lr ns (fz (brd bd)) (fz (brd ob)) (fz (brd (turnL bd W))) v4 v5 none none none none) = M.ret (brd (mirrL bd)) := mirrored_val hg
      refine (callF_val (ds := [brd (mirrL bd)]) (aC_val (xs := []) m1 rfl) rfl).trans ?_
      rw [mirrored_val (good_mirr hg), mirr_mirr]
  refine sSeq_nx (sIf_F (?_ : _ = M.ret false) rfl) ?_
  · refine ne_F (x := brd bd) ?_ rfl (ne_brd _)
    have m1 : callF 1 f_turned (aC (dV 3) aN) (lr ns (fz (brd bd)) (fz (brd ob)) (fz (brd (turnL bd W))) v4 v5 none none none none) = M.ret (brd (turnL (turnL bd W) bd.length)) := turned_val hT
    have hT2 := good_turn hT
    rw [turn_len] at hT2
    have m2 : callF 1 f_turned (aC (callF 1 f_turned (aC (dV 3) aN)) aN) (lr ns (fz (brd bd)) (fz (brd ob)) (fz (brd (turnL bd W))) v4 v5 none none none none) = M.ret (brd (turnL (turnL (turnL bd W) bd.length) W)) := by
      refine (callF_val (ds := [brd (turnL (turnL bd W) bd.length)]) (aC_val (xs := []) m1 rfl) rfl).trans ?_
      exact turned_val hT2
    have hT3 := good_turn hT2
    rw [turn_len] at hT3
    refine (callF_val (ds := [brd (turnL (turnL (turnL bd W) bd.length) W)]) (aC_val (xs := []) m2 rfl) rfl).trans ?_
    rw [turned_val hT3, turn4 fun r hr => (hg.rows r hr).len]
  refine sSeq_nx (ρ' := lr ns (fz (brd bd)) (fz (brd ob)) (fz (brd (turnL bd W))) v4 v5 (fz (.str (catS bd))) none none none) ((sSet_val (d := .str (catS bd)) (join_val (.inr rfl) (cat_len hg))).trans rfl) ?_
  refine sSeq_nx (ρ' := lr ns (fz (brd bd)) (fz (brd ob)) (fz (brd (turnL bd W))) v4 v5 (fz (.str (catS bd))) (fz (.lst (letL (catS bd)))) none none) ((sSet_val (d := .lst (letL (catS bd))) (let_comp (k := 6) rfl)).trans rfl) ?_
  have t2 : f_law_told [.int 2, brd bd, .non] = M.ret (.lst (letL (catS bd))) := told2.trans (told_ret (letters_val hg))
  have t2T : f_law_told [.int 2, brd (turnL bd W), .non] = M.ret (.lst (letL (catS bd))) := told2.trans (told_ret ((letters_val hT).trans (by rw [let_turn hg])))
  refine sSeq_nx (sIf_F (dOr_val (p := false) (q := false) (ne_F (x := .lst (letL (catS bd))) t2 rfl (ne_let _)) (ne_F (x := .lst (letL (catS bd))) t2T rfl (ne_let _))) rfl) ?_
  have hle : decide ((bd.length : Int) + (ob.length : Int) ≤ 8) = decide (bd.length + ob.length ≤ 8) := by
    by_cases h : bd.length + ob.length ≤ 8
    · rw [decide_eq_true h, decide_eq_true (by omega)]
    · rw [decide_eq_false h, decide_eq_false (by omega)]
  refine sSeq_nx (ρ' := lr ns (fz (brd bd)) (fz (brd ob)) (fz (brd (turnL bd W))) v4 v5 (fz (.str (catS bd))) (fz (.lst (letL (catS bd)))) (fz (.bl ((W == V) && decide (bd.length + ob.length ≤ 8)))) none) ((sSet_val (d := .bl ((W == V) && decide (bd.length + ob.length ≤ 8))) ?_).trans rfl) ?_
  · refine dAndV_val ?_ ?_
    · rw [d2_val (hg.brd.len0 rfl) (ho.len0 rfl), eq_int, natEq]
    · rw [d2_val (x := .int ((bd.length : Int) + (ob.length : Int))) (y := .int 8) ((d2_val (lenR rfl) (lenR rfl)).trans rfl) rfl]
      show M.ret (D.bl (decide ((bd.length : Int) + (ob.length : Int) ≤ 8))) = _
      rw [hle]
  have t3 : f_law_told [.int 3, brd bd, brd ob] = tryV (if W = V ∧ bd.length + ob.length ≤ 8 then M.ret (brd (bd ++ ob)) else M.raise 5) := told3.trans (by rw [stacked_val hg.brd ho])
  refine sSeq_nx (sIf_F (?_ : _ = M.ret false) rfl) ?_
  · by_cases hf : W = V ∧ bd.length + ob.length ≤ 8
    · rw [if_pos hf] at t3
      have hb : ((W == V) && decide (bd.length + ob.length ≤ 8)) = true := by simp [hf.1, hf.2]
      rw [hb]
      exact ne_F (x := brd (bd ++ ob)) t3 (cat_brd (by rw [limv]; omega)) (ne_brd _)
    · rw [if_neg hf] at t3
      have hb : ((W == V) && decide (bd.length + ob.length ≤ 8)) = false := by
        cases z : ((W == V) && decide (bd.length + ob.length ≤ 8)) with
        | false => rfl
        | true =>
          exfalso
          rw [Bool.and_eq_true] at z
          exact hf ⟨eq_of_beq z.1, of_decide_eq_true z.2⟩
      rw [hb]
      exact ne_F (x := refD 5) (t3.trans (hd_val 5 (by decide))) rfl rfl
  refine sSeq_nx (ρ' := lr ns (fz (brd bd)) (fz (brd ob)) (fz (brd (turnL bd W))) v4 v5 (fz (.str (catS bd))) (fz (.lst (letL (catS bd)))) (fz (.bl ((W == V) && decide (bd.length + ob.length ≤ 8)))) (fz bad)) ((sSet_val (d := bad) ?_).trans rfl) ?_
  · refine (d2_val (x := .lst (five bd)) (y := .int (b : Int)) ?_ e101).trans ebad
    have c1 : gCatT (brd bd) (.tup [.str ""]) = M.ret (brd (bd ++ [⟨#[]⟩])) := cat_brd (a := bd) (b := [⟨#[]⟩]) (by simp [limv]; omega)
    refine (dA_val (aC_val (x := .non) rfl (aC_val (x := .tup []) rfl (aC_val (x := .lst (bd.map D.str)) rfl (aC_val (x := brd (bd ++ [⟨#[]⟩])) c1 (aC_val (x := .tup [.str "g"]) (xs := []) rfl rfl)))))).trans rfl
  have r0 : tryV (M.raise 0) = M.ret (refD 0) := hd_val 0 (by decide)
  refine sSeq_nx (sIf_F (?_ : _ = M.ret false) rfl) (sRet_val ?_)
  · refine ne_F (x := .lst [refD 0, refD 0, refD 0, refD 0]) ?_ rfl rfl
    refine dComp_val (ds := rngL 0 4) (rngM1_val (n := 4) (by decide)) ?_ (by decide)
    refine (compL_map (g := fun _ => refD 0) (rngL 0 4) fun x hx => ?_).trans rfl
    rw [compF0]
    obtain ⟨i, hi, rfl⟩ := rngL_mem hx
    show (f_law_told [.int (0 + (i : Int)), bad, .non] >>= fun y => M.ret (some y)) = _
    match i, hi with
    | 0, _ => rw [show (0 : Int) + ((0 : Nat) : Int) = 0 from rfl, told0, turned_no pbad nbad, r0]; rfl
    | 1, _ => rw [show (0 : Int) + ((1 : Nat) : Int) = 1 from rfl, told1, mirrored_no pbad nbad, r0]; rfl
    | 2, _ => rw [show (0 : Int) + ((2 : Nat) : Int) = 2 from rfl, told2, letters_no pbad nbad, r0]; rfl
    | 3, _ => rw [show (0 : Int) + ((3 : Nat) : Int) = 3 from rfl, told3, stacked_no1 pbad nbad, r0]; rfl
  · have t4 : f_law_told [.int 3, brd bd, bad] = M.ret (refD 0) := told3.trans (by rw [stacked_no2 hg pbad nbad]; exact r0)
    exact (d2_val (x := refD 0) (y := refD 0) t4 rfl).trans rfl
end K1


namespace K1
open PySem PySem.Spec L2 L3
open PyProof.Rows hiding St
def mkA (c0 c1 c2 c3 c4 c5 c6 : Addr) : Nat → Addr
  | 0 => c0
  | 1 => c1
  | 2 => c2
  | 3 => c3
  | 4 => c4
  | 5 => c5
  | _ => c6
theorem all_mk {P : Program} {w : World} {K : PySem.W.Frag} {h : Heap} {mg : Str → Option Value} {fa : Addr} (X : K.In h) (G : h.Ns mainGlobals mg) (hfa : mg "law" = some (.ref fa))
    {f_is_letterA : Addr} {od_is_letter an_is_letter : Option Addr} {sl_is_letter : Array (Option Value)} {oc_is_letter kV_is_letter dc_is_letter pm_is_letter cd_is_letter ct_is_letter : Value}
    {f_is_rowA : Addr} {od_is_row an_is_row : Option Addr} {sl_is_row : Array (Option Value)} {oc_is_row kV_is_row dc_is_row pm_is_row cd_is_row ct_is_row : Value}
    {f_is_boardA : Addr} {od_is_board an_is_board : Option Addr} {sl_is_board : Array (Option Value)} {oc_is_board kV_is_board dc_is_board pm_is_board cd_is_board ct_is_board : Value}
    {f_need_boardA : Addr} {od_need_board an_need_board : Option Addr} {sl_need_board : Array (Option Value)} {oc_need_board kV_need_board dc_need_board pm_need_board cd_need_board ct_need_board : Value}
    {f_need_fitA : Addr} {od_need_fit an_need_fit : Option Addr} {sl_need_fit : Array (Option Value)} {oc_need_fit kV_need_fit dc_need_fit pm_need_fit cd_need_fit ct_need_fit : Value}
    {f_column_from_belowA : Addr} {od_column_from_below an_column_from_below : Option Addr} {sl_column_from_below : Array (Option Value)} {oc_column_from_below kV_column_from_below dc_column_from_below pm_column_from_below cd_column_from_below ct_column_from_below : Value}
    {f_turnedA : Addr} {od_turned an_turned : Option Addr} {sl_turned : Array (Option Value)} {oc_turned kV_turned dc_turned pm_turned cd_turned ct_turned : Value}
    {f_mirroredA : Addr} {od_mirrored an_mirrored : Option Addr} {sl_mirrored : Array (Option Value)} {oc_mirrored kV_mirrored dc_mirrored pm_mirrored cd_mirrored ct_mirrored : Value}
    {f_stackedA : Addr} {od_stacked an_stacked : Option Addr} {sl_stacked : Array (Option Value)} {oc_stacked kV_stacked dc_stacked pm_stacked cd_stacked ct_stacked : Value}
    {f_lettersA : Addr} {od_letters an_letters : Option Addr} {sl_letters : Array (Option Value)} {oc_letters kV_letters dc_letters pm_letters cd_letters ct_letters : Value}
    {f_law_cellA : Addr} {od_law_cell an_law_cell : Option Addr} {sl_law_cell : Array (Option Value)} {oc_law_cell kV_law_cell dc_law_cell pm_law_cell cd_law_cell ct_law_cell : Value}
    {f_law_drawnA : Addr} {od_law_drawn an_law_drawn : Option Addr} {sl_law_drawn : Array (Option Value)} {oc_law_drawn kV_law_drawn dc_law_drawn pm_law_drawn cd_law_drawn ct_law_drawn : Value}
    {f_law_boardA : Addr} {od_law_board an_law_board : Option Addr} {sl_law_board : Array (Option Value)} {oc_law_board kV_law_board dc_law_board pm_law_board cd_law_board ct_law_board : Value}
    {f_law_cellsA : Addr} {od_law_cells an_law_cells : Option Addr} {sl_law_cells : Array (Option Value)} {oc_law_cells kV_law_cells dc_law_cells pm_law_cells cd_law_cells ct_law_cells : Value}
    {f_law_refusedA : Addr} {od_law_refused an_law_refused : Option Addr} {sl_law_refused : Array (Option Value)} {oc_law_refused kV_law_refused dc_law_refused pm_law_refused cd_law_refused ct_law_refused : Value}
    {f_law_toldA : Addr} {od_law_told an_law_told : Option Addr} {sl_law_told : Array (Option Value)} {oc_law_told kV_law_told dc_law_told pm_law_told cd_law_told ct_law_told : Value}
    {f_lawA : Addr} {od_law an_law : Option Addr} {sl_law : Array (Option Value)} {oc_law kV_law dc_law pm_law cd_law ct_law : Value}
    {t_LETTERS : Tok}
    {t_MOST_ROWS : Tok}
    {t_MOST_COLUMNS : Tok}
    {C0 C1 C2 C3 C4 C5 C6 Cp : Addr} {r0 r1 r2 r3 r4 r5 r6 : ClassData}
    (a_is_letter : PySem.W.nsIn K mainGlobals "is_letter" = some (some (.ref f_is_letterA))) (l_is_letter : K.lookup f_is_letterA = some ⟨oc_is_letter, od_is_letter, .func (PySem.W.fnOf "is_letter" "is_letter" (defArgs s_is_letter) (defBody s_is_letter) (defScope s_is_letter) .none kV_is_letter dc_is_letter pm_is_letter an_is_letter cd_is_letter ct_is_letter), sl_is_letter⟩) (c_is_letter : PySem.W.codeIn K cd_is_letter "is_letter" = true) (k_is_letter : PySem.W.keepIn K (.ref f_is_letterA) = true)
    (a_is_row : PySem.W.nsIn K mainGlobals "is_row" = some (some (.ref f_is_rowA))) (l_is_row : K.lookup f_is_rowA = some ⟨oc_is_row, od_is_row, .func (PySem.W.fnOf "is_row" "is_row" (defArgs s_is_row) (defBody s_is_row) (defScope s_is_row) .none kV_is_row dc_is_row pm_is_row an_is_row cd_is_row ct_is_row), sl_is_row⟩) (c_is_row : PySem.W.codeIn K cd_is_row "is_row" = true) (k_is_row : PySem.W.keepIn K (.ref f_is_rowA) = true)
    (a_is_board : PySem.W.nsIn K mainGlobals "is_board" = some (some (.ref f_is_boardA))) (l_is_board : K.lookup f_is_boardA = some ⟨oc_is_board, od_is_board, .func (PySem.W.fnOf "is_board" "is_board" (defArgs s_is_board) (defBody s_is_board) (defScope s_is_board) .none kV_is_board dc_is_board pm_is_board an_is_board cd_is_board ct_is_board), sl_is_board⟩) (c_is_board : PySem.W.codeIn K cd_is_board "is_board" = true) (k_is_board : PySem.W.keepIn K (.ref f_is_boardA) = true)
    (a_need_board : PySem.W.nsIn K mainGlobals "need_board" = some (some (.ref f_need_boardA))) (l_need_board : K.lookup f_need_boardA = some ⟨oc_need_board, od_need_board, .func (PySem.W.fnOf "need_board" "need_board" (defArgs s_need_board) (defBody s_need_board) (defScope s_need_board) .none kV_need_board dc_need_board pm_need_board an_need_board cd_need_board ct_need_board), sl_need_board⟩) (c_need_board : PySem.W.codeIn K cd_need_board "need_board" = true) (k_need_board : PySem.W.keepIn K (.ref f_need_boardA) = true)
    (a_need_fit : PySem.W.nsIn K mainGlobals "need_fit" = some (some (.ref f_need_fitA))) (l_need_fit : K.lookup f_need_fitA = some ⟨oc_need_fit, od_need_fit, .func (PySem.W.fnOf "need_fit" "need_fit" (defArgs s_need_fit) (defBody s_need_fit) (defScope s_need_fit) .none kV_need_fit dc_need_fit pm_need_fit an_need_fit cd_need_fit ct_need_fit), sl_need_fit⟩) (c_need_fit : PySem.W.codeIn K cd_need_fit "need_fit" = true) (k_need_fit : PySem.W.keepIn K (.ref f_need_fitA) = true)
    (a_column_from_below : PySem.W.nsIn K mainGlobals "column_from_below" = some (some (.ref f_column_from_belowA))) (l_column_from_below : K.lookup f_column_from_belowA = some ⟨oc_column_from_below, od_column_from_below, .func (PySem.W.fnOf "column_from_below" "column_from_below" (defArgs s_column_from_below) (defBody s_column_from_below) (defScope s_column_from_below) .none kV_column_from_below dc_column_from_below pm_column_from_below an_column_from_below cd_column_from_below ct_column_from_below), sl_column_from_below⟩) (c_column_from_below : PySem.W.codeIn K cd_column_from_below "column_from_below" = true) (k_column_from_below : PySem.W.keepIn K (.ref f_column_from_belowA) = true)
    (a_turned : PySem.W.nsIn K mainGlobals "turned" = some (some (.ref f_turnedA))) (l_turned : K.lookup f_turnedA = some ⟨oc_turned, od_turned, .func (PySem.W.fnOf "turned" "turned" (defArgs s_turned) (defBody s_turned) (defScope s_turned) .none kV_turned dc_turned pm_turned an_turned cd_turned ct_turned), sl_turned⟩) (c_turned : PySem.W.codeIn K cd_turned "turned" = true) (k_turned : PySem.W.keepIn K (.ref f_turnedA) = true)
    (a_mirrored : PySem.W.nsIn K mainGlobals "mirrored" = some (some (.ref f_mirroredA))) (l_mirrored : K.lookup f_mirroredA = some ⟨oc_mirrored, od_mirrored, .func (PySem.W.fnOf "mirrored" "mirrored" (defArgs s_mirrored) (defBody s_mirrored) (defScope s_mirrored) .none kV_mirrored dc_mirrored pm_mirrored an_mirrored cd_mirrored ct_mirrored), sl_mirrored⟩) (c_mirrored : PySem.W.codeIn K cd_mirrored "mirrored" = true) (k_mirrored : PySem.W.keepIn K (.ref f_mirroredA) = true)
    (a_stacked : PySem.W.nsIn K mainGlobals "stacked" = some (some (.ref f_stackedA))) (l_stacked : K.lookup f_stackedA = some ⟨oc_stacked, od_stacked, .func (PySem.W.fnOf "stacked" "stacked" (defArgs s_stacked) (defBody s_stacked) (defScope s_stacked) .none kV_stacked dc_stacked pm_stacked an_stacked cd_stacked ct_stacked), sl_stacked⟩) (c_stacked : PySem.W.codeIn K cd_stacked "stacked" = true) (k_stacked : PySem.W.keepIn K (.ref f_stackedA) = true)
    (a_letters : PySem.W.nsIn K mainGlobals "letters" = some (some (.ref f_lettersA))) (l_letters : K.lookup f_lettersA = some ⟨oc_letters, od_letters, .func (PySem.W.fnOf "letters" "letters" (defArgs s_letters) (defBody s_letters) (defScope s_letters) .none kV_letters dc_letters pm_letters an_letters cd_letters ct_letters), sl_letters⟩) (c_letters : PySem.W.codeIn K cd_letters "letters" = true) (k_letters : PySem.W.keepIn K (.ref f_lettersA) = true)
    (a_law_cell : PySem.W.nsIn K mainGlobals "_law_cell" = some (some (.ref f_law_cellA))) (l_law_cell : K.lookup f_law_cellA = some ⟨oc_law_cell, od_law_cell, .func (PySem.W.fnOf "_law_cell" "_law_cell" (defArgs s_law_cell) (defBody s_law_cell) (defScope s_law_cell) .none kV_law_cell dc_law_cell pm_law_cell an_law_cell cd_law_cell ct_law_cell), sl_law_cell⟩) (c_law_cell : PySem.W.codeIn K cd_law_cell "_law_cell" = true) (k_law_cell : PySem.W.keepIn K (.ref f_law_cellA) = true)
    (a_law_drawn : PySem.W.nsIn K mainGlobals "_law_drawn" = some (some (.ref f_law_drawnA))) (l_law_drawn : K.lookup f_law_drawnA = some ⟨oc_law_drawn, od_law_drawn, .func (PySem.W.fnOf "_law_drawn" "_law_drawn" (defArgs s_law_drawn) (defBody s_law_drawn) (defScope s_law_drawn) .none kV_law_drawn dc_law_drawn pm_law_drawn an_law_drawn cd_law_drawn ct_law_drawn), sl_law_drawn⟩) (c_law_drawn : PySem.W.codeIn K cd_law_drawn "_law_drawn" = true) (k_law_drawn : PySem.W.keepIn K (.ref f_law_drawnA) = true)
    (a_law_board : PySem.W.nsIn K mainGlobals "_law_board" = some (some (.ref f_law_boardA))) (l_law_board : K.lookup f_law_boardA = some ⟨oc_law_board, od_law_board, .func (PySem.W.fnOf "_law_board" "_law_board" (defArgs s_law_board) (defBody s_law_board) (defScope s_law_board) .none kV_law_board dc_law_board pm_law_board an_law_board cd_law_board ct_law_board), sl_law_board⟩) (c_law_board : PySem.W.codeIn K cd_law_board "_law_board" = true) (k_law_board : PySem.W.keepIn K (.ref f_law_boardA) = true)
    (a_law_cells : PySem.W.nsIn K mainGlobals "_law_cells" = some (some (.ref f_law_cellsA))) (l_law_cells : K.lookup f_law_cellsA = some ⟨oc_law_cells, od_law_cells, .func (PySem.W.fnOf "_law_cells" "_law_cells" (defArgs s_law_cells) (defBody s_law_cells) (defScope s_law_cells) .none kV_law_cells dc_law_cells pm_law_cells an_law_cells cd_law_cells ct_law_cells), sl_law_cells⟩) (c_law_cells : PySem.W.codeIn K cd_law_cells "_law_cells" = true) (k_law_cells : PySem.W.keepIn K (.ref f_law_cellsA) = true)
    (a_law_refused : PySem.W.nsIn K mainGlobals "_law_refused" = some (some (.ref f_law_refusedA))) (l_law_refused : K.lookup f_law_refusedA = some ⟨oc_law_refused, od_law_refused, .func (PySem.W.fnOf "_law_refused" "_law_refused" (defArgs s_law_refused) (defBody s_law_refused) (defScope s_law_refused) .none kV_law_refused dc_law_refused pm_law_refused an_law_refused cd_law_refused ct_law_refused), sl_law_refused⟩) (c_law_refused : PySem.W.codeIn K cd_law_refused "_law_refused" = true) (k_law_refused : PySem.W.keepIn K (.ref f_law_refusedA) = true)
    (a_law_told : PySem.W.nsIn K mainGlobals "_law_told" = some (some (.ref f_law_toldA))) (l_law_told : K.lookup f_law_toldA = some ⟨oc_law_told, od_law_told, .func (PySem.W.fnOf "_law_told" "_law_told" (defArgs s_law_told) (defBody s_law_told) (defScope s_law_told) .none kV_law_told dc_law_told pm_law_told an_law_told cd_law_told ct_law_told), sl_law_told⟩) (c_law_told : PySem.W.codeIn K cd_law_told "_law_told" = true) (k_law_told : PySem.W.keepIn K (.ref f_law_toldA) = true)
    (a_law : PySem.W.nsIn K mainGlobals "law" = some (some (.ref f_lawA))) (l_law : K.lookup f_lawA = some ⟨oc_law, od_law, .func (PySem.W.fnOf "law" "law" (defArgs s_law) (defBody s_law) (defScope s_law) .none kV_law dc_law pm_law an_law cd_law ct_law), sl_law⟩) (c_law : PySem.W.codeIn K cd_law "law" = true) (k_law : PySem.W.keepIn K (.ref f_lawA) = true)
    (z_len : PySem.W.nsIn K mainGlobals "len" = some none)
    (z_isinstance : PySem.W.nsIn K mainGlobals "isinstance" = some none)
    (z_all : PySem.W.nsIn K mainGlobals "all" = some none)
    (z_range : PySem.W.nsIn K mainGlobals "range" = some none)
    (z_str : PySem.W.nsIn K mainGlobals "str" = some none)
    (z_tuple : PySem.W.nsIn K mainGlobals "tuple" = some none)
    (z_list : PySem.W.nsIn K mainGlobals "list" = some none)
    (z_ValueError : PySem.W.nsIn K mainGlobals "ValueError" = some none)
    (z_reversed : PySem.W.nsIn K mainGlobals "reversed" = some none)
    (y_LETTERS : PySem.W.nsIn K mainGlobals "LETTERS" = some (some (.str "abcdef" t_LETTERS)))
    (y_MOST_ROWS : PySem.W.nsIn K mainGlobals "MOST_ROWS" = some (some (.int 8 t_MOST_ROWS)))
    (y_MOST_COLUMNS : PySem.W.nsIn K mainGlobals "MOST_COLUMNS" = some (some (.int 8 t_MOST_COLUMNS)))
    (e0 : PySem.W.nsIn K mainGlobals "NoBoard" = some (some (.ref C0)))
    (e1 : PySem.W.nsIn K mainGlobals "NoWays" = some (some (.ref C1)))
    (e2 : PySem.W.nsIn K mainGlobals "NoCell" = some (some (.ref C2)))
    (e3 : PySem.W.nsIn K mainGlobals "NoLetter" = some (some (.ref C3)))
    (e4 : PySem.W.nsIn K mainGlobals "NoNumber" = some (some (.ref C4)))
    (e5 : PySem.W.nsIn K mainGlobals "NoFit" = some (some (.ref C5)))
    (e6 : PySem.W.nsIn K mainGlobals "Nothing" = some (some (.ref C6)))
    (ep : PySem.W.nsIn K mainGlobals "PatchError" = some (some (.ref Cp)))
    (sp : PySem.W.subIn K (.ref Cp) (.type "BaseException") = some true)
    (q0 : PySem.W.excIn K C0 [.type "ValueError", .type "Exception", .type "BaseException", .type "object"] "ValueError.__new__" = true)
    (ga0 : PySem.W.findIn K (.ref C0) "__getattribute__" = some (some (.builtin "BaseException.__getattribute__"))) (gt0 : PySem.W.findIn K (.ref C0) "__getattr__" = some none) (ca0 : PySem.W.findIn K (.ref C0) "__class__" = some (some (.builtin "object.__class__"))) (mo0 : PySem.W.mroIn K C0 (.type "object") = some true) (mb0 : PySem.W.mroIn K C0 (.type "BaseException") = some true) (cl0 : PySem.W.clsIn K C0 = some r0)
    (kp0 : PySem.W.kitOne K (.ref C0) (.ref Cp) = some true) (kv0 : PySem.W.kitOne K (.ref C0) (.type "ValueError") = some true) (np0 : ((Value.ref C0) == (Value.ref Cp)) = false)
    (k00 : PySem.W.kitOne K (.ref C0) (.ref C0) = some true)
    (k01 : PySem.W.kitOne K (.ref C0) (.ref C1) = some false)
    (k02 : PySem.W.kitOne K (.ref C0) (.ref C2) = some false)
    (k03 : PySem.W.kitOne K (.ref C0) (.ref C3) = some false)
    (k04 : PySem.W.kitOne K (.ref C0) (.ref C4) = some false)
    (k05 : PySem.W.kitOne K (.ref C0) (.ref C5) = some false)
    (k06 : PySem.W.kitOne K (.ref C0) (.ref C6) = some false)
    (q1 : PySem.W.excIn K C1 [.type "ValueError", .type "Exception", .type "BaseException", .type "object"] "ValueError.__new__" = true)
    (ga1 : PySem.W.findIn K (.ref C1) "__getattribute__" = some (some (.builtin "BaseException.__getattribute__"))) (gt1 : PySem.W.findIn K (.ref C1) "__getattr__" = some none) (ca1 : PySem.W.findIn K (.ref C1) "__class__" = some (some (.builtin "object.__class__"))) (mo1 : PySem.W.mroIn K C1 (.type "object") = some true) (mb1 : PySem.W.mroIn K C1 (.type "BaseException") = some true) (cl1 : PySem.W.clsIn K C1 = some r1)
    (kp1 : PySem.W.kitOne K (.ref C1) (.ref Cp) = some true) (kv1 : PySem.W.kitOne K (.ref C1) (.type "ValueError") = some true) (np1 : ((Value.ref C1) == (Value.ref Cp)) = false)
    (k10 : PySem.W.kitOne K (.ref C1) (.ref C0) = some false)
    (k11 : PySem.W.kitOne K (.ref C1) (.ref C1) = some true)
    (k12 : PySem.W.kitOne K (.ref C1) (.ref C2) = some false)
    (k13 : PySem.W.kitOne K (.ref C1) (.ref C3) = some false)
    (k14 : PySem.W.kitOne K (.ref C1) (.ref C4) = some false)
    (k15 : PySem.W.kitOne K (.ref C1) (.ref C5) = some false)
    (k16 : PySem.W.kitOne K (.ref C1) (.ref C6) = some false)
    (q2 : PySem.W.excIn K C2 [.type "ValueError", .type "Exception", .type "BaseException", .type "object"] "ValueError.__new__" = true)
    (ga2 : PySem.W.findIn K (.ref C2) "__getattribute__" = some (some (.builtin "BaseException.__getattribute__"))) (gt2 : PySem.W.findIn K (.ref C2) "__getattr__" = some none) (ca2 : PySem.W.findIn K (.ref C2) "__class__" = some (some (.builtin "object.__class__"))) (mo2 : PySem.W.mroIn K C2 (.type "object") = some true) (mb2 : PySem.W.mroIn K C2 (.type "BaseException") = some true) (cl2 : PySem.W.clsIn K C2 = some r2)
    (kp2 : PySem.W.kitOne K (.ref C2) (.ref Cp) = some true) (kv2 : PySem.W.kitOne K (.ref C2) (.type "ValueError") = some true) (np2 : ((Value.ref C2) == (Value.ref Cp)) = false)
    (k20 : PySem.W.kitOne K (.ref C2) (.ref C0) = some false)
    (k21 : PySem.W.kitOne K (.ref C2) (.ref C1) = some false)
    (k22 : PySem.W.kitOne K (.ref C2) (.ref C2) = some true)
    (k23 : PySem.W.kitOne K (.ref C2) (.ref C3) = some false)
    (k24 : PySem.W.kitOne K (.ref C2) (.ref C4) = some false)
    (k25 : PySem.W.kitOne K (.ref C2) (.ref C5) = some false)
    (k26 : PySem.W.kitOne K (.ref C2) (.ref C6) = some false)
    (q3 : PySem.W.excIn K C3 [.type "ValueError", .type "Exception", .type "BaseException", .type "object"] "ValueError.__new__" = true)
    (ga3 : PySem.W.findIn K (.ref C3) "__getattribute__" = some (some (.builtin "BaseException.__getattribute__"))) (gt3 : PySem.W.findIn K (.ref C3) "__getattr__" = some none) (ca3 : PySem.W.findIn K (.ref C3) "__class__" = some (some (.builtin "object.__class__"))) (mo3 : PySem.W.mroIn K C3 (.type "object") = some true) (mb3 : PySem.W.mroIn K C3 (.type "BaseException") = some true) (cl3 : PySem.W.clsIn K C3 = some r3)
    (kp3 : PySem.W.kitOne K (.ref C3) (.ref Cp) = some true) (kv3 : PySem.W.kitOne K (.ref C3) (.type "ValueError") = some true) (np3 : ((Value.ref C3) == (Value.ref Cp)) = false)
    (k30 : PySem.W.kitOne K (.ref C3) (.ref C0) = some false)
    (k31 : PySem.W.kitOne K (.ref C3) (.ref C1) = some false)
    (k32 : PySem.W.kitOne K (.ref C3) (.ref C2) = some false)
    (k33 : PySem.W.kitOne K (.ref C3) (.ref C3) = some true)
    (k34 : PySem.W.kitOne K (.ref C3) (.ref C4) = some false)
    (k35 : PySem.W.kitOne K (.ref C3) (.ref C5) = some false)
    (k36 : PySem.W.kitOne K (.ref C3) (.ref C6) = some false)
    (q4 : PySem.W.excIn K C4 [.type "ValueError", .type "Exception", .type "BaseException", .type "object"] "ValueError.__new__" = true)
    (ga4 : PySem.W.findIn K (.ref C4) "__getattribute__" = some (some (.builtin "BaseException.__getattribute__"))) (gt4 : PySem.W.findIn K (.ref C4) "__getattr__" = some none) (ca4 : PySem.W.findIn K (.ref C4) "__class__" = some (some (.builtin "object.__class__"))) (mo4 : PySem.W.mroIn K C4 (.type "object") = some true) (mb4 : PySem.W.mroIn K C4 (.type "BaseException") = some true) (cl4 : PySem.W.clsIn K C4 = some r4)
    (kp4 : PySem.W.kitOne K (.ref C4) (.ref Cp) = some true) (kv4 : PySem.W.kitOne K (.ref C4) (.type "ValueError") = some true) (np4 : ((Value.ref C4) == (Value.ref Cp)) = false)
    (k40 : PySem.W.kitOne K (.ref C4) (.ref C0) = some false)
    (k41 : PySem.W.kitOne K (.ref C4) (.ref C1) = some false)
    (k42 : PySem.W.kitOne K (.ref C4) (.ref C2) = some false)
    (k43 : PySem.W.kitOne K (.ref C4) (.ref C3) = some false)
    (k44 : PySem.W.kitOne K (.ref C4) (.ref C4) = some true)
    (k45 : PySem.W.kitOne K (.ref C4) (.ref C5) = some false)
    (k46 : PySem.W.kitOne K (.ref C4) (.ref C6) = some false)
    (q5 : PySem.W.excIn K C5 [.type "ValueError", .type "Exception", .type "BaseException", .type "object"] "ValueError.__new__" = true)
    (ga5 : PySem.W.findIn K (.ref C5) "__getattribute__" = some (some (.builtin "BaseException.__getattribute__"))) (gt5 : PySem.W.findIn K (.ref C5) "__getattr__" = some none) (ca5 : PySem.W.findIn K (.ref C5) "__class__" = some (some (.builtin "object.__class__"))) (mo5 : PySem.W.mroIn K C5 (.type "object") = some true) (mb5 : PySem.W.mroIn K C5 (.type "BaseException") = some true) (cl5 : PySem.W.clsIn K C5 = some r5)
    (kp5 : PySem.W.kitOne K (.ref C5) (.ref Cp) = some true) (kv5 : PySem.W.kitOne K (.ref C5) (.type "ValueError") = some true) (np5 : ((Value.ref C5) == (Value.ref Cp)) = false)
    (k50 : PySem.W.kitOne K (.ref C5) (.ref C0) = some false)
    (k51 : PySem.W.kitOne K (.ref C5) (.ref C1) = some false)
    (k52 : PySem.W.kitOne K (.ref C5) (.ref C2) = some false)
    (k53 : PySem.W.kitOne K (.ref C5) (.ref C3) = some false)
    (k54 : PySem.W.kitOne K (.ref C5) (.ref C4) = some false)
    (k55 : PySem.W.kitOne K (.ref C5) (.ref C5) = some true)
    (k56 : PySem.W.kitOne K (.ref C5) (.ref C6) = some false)
    (q6 : PySem.W.excIn K C6 [.type "ValueError", .type "Exception", .type "BaseException", .type "object"] "ValueError.__new__" = true)
    (ga6 : PySem.W.findIn K (.ref C6) "__getattribute__" = some (some (.builtin "BaseException.__getattribute__"))) (gt6 : PySem.W.findIn K (.ref C6) "__getattr__" = some none) (ca6 : PySem.W.findIn K (.ref C6) "__class__" = some (some (.builtin "object.__class__"))) (mo6 : PySem.W.mroIn K C6 (.type "object") = some true) (mb6 : PySem.W.mroIn K C6 (.type "BaseException") = some true) (cl6 : PySem.W.clsIn K C6 = some r6)
    (kp6 : PySem.W.kitOne K (.ref C6) (.ref Cp) = some true) (kv6 : PySem.W.kitOne K (.ref C6) (.type "ValueError") = some true) (np6 : ((Value.ref C6) == (Value.ref Cp)) = false)
    (k60 : PySem.W.kitOne K (.ref C6) (.ref C0) = some false)
    (k61 : PySem.W.kitOne K (.ref C6) (.ref C1) = some false)
    (k62 : PySem.W.kitOne K (.ref C6) (.ref C2) = some false)
    (k63 : PySem.W.kitOne K (.ref C6) (.ref C3) = some false)
    (k64 : PySem.W.kitOne K (.ref C6) (.ref C4) = some false)
    (k65 : PySem.W.kitOne K (.ref C6) (.ref C5) = some false)
    (k66 : PySem.W.kitOne K (.ref C6) (.ref C6) = some true) :
    ∃ (cv : Nat → Value) (fd : FuncData), (∀ (s : Shared) (u : Value), BindsTo s fd ⟨[u], []⟩ [("_law_script", u)]) ∧ ∀ base : Heap, K.In base → base.Ns mainGlobals mg → FnOk P w K mg base (CX1 P w cv) 7 fa fd ["_law_script"] (spD K cv 1 f_law) := by
  have ea := hfa.symm.trans (PySem.W.mg_of X G a_law)
  cases ea
  refine ⟨fun n => .ref (mkA C0 C1 C2 C3 C4 C5 C6 n), PySem.W.fnOf "law" "law" (defArgs s_law) (defBody s_law) (defScope s_law) .none kV_law dc_law pm_law an_law cd_law ct_law, fun s v => .of_eq rfl, fun base KB GB => ?_⟩
  have B : Bl K mg base (fun n => .ref (mkA C0 C1 C2 C3 C4 C5 C6 n)) (mkA C0 C1 C2 C3 C4 C5 C6) Cp := by
    refine ⟨PySem.W.mg_none_of X G z_len, PySem.W.mg_none_of X G z_isinstance, PySem.W.mg_none_of X G z_all, PySem.W.mg_none_of X G z_range, PySem.W.mg_none_of X G z_str, PySem.W.mg_none_of X G z_tuple, PySem.W.mg_none_of X G z_list, PySem.W.mg_none_of X G z_ValueError, PySem.W.mg_none_of X G z_reversed, ⟨_, PySem.W.mg_of X G y_LETTERS⟩, ⟨_, PySem.W.mg_of X G y_MOST_ROWS⟩, ⟨_, PySem.W.mg_of X G y_MOST_COLUMNS⟩, ?own, fun _ => rfl, PySem.W.mg_of X G ep, ?exm, ?exs, ?kit, ?kitV, ?hi⟩
    case own =>
      intro n x e
      match n, e with
      | 0, e => cases e; exact own_of KB GB e0 q0
      | 1, e => cases e; exact own_of KB GB e1 q1
      | 2, e => cases e; exact own_of KB GB e2 q2
      | 3, e => cases e; exact own_of KB GB e3 q3
      | 4, e => cases e; exact own_of KB GB e4 q4
      | 5, e => cases e; exact own_of KB GB e5 q5
      | 6, e => cases e; exact own_of KB GB e6 q6
      | n + 7, e => cases e
    case exm =>
      intro n
      match n with
      | 0 => exact exm_of sp kp0 np0
      | 1 => exact exm_of sp kp1 np1
      | 2 => exact exm_of sp kp2 np2
      | 3 => exact exm_of sp kp3 np3
      | 4 => exact exm_of sp kp4 np4
      | 5 => exact exm_of sp kp5 np5
      | n + 6 => exact exm_of sp kp6 np6
    case exs =>
      intro C hC
      simp only [cAs, mkA, List.mem_cons, List.not_mem_nil, or_false] at hC
      rcases hC with e | e | e | e | e | e | e <;> subst e
      · exact ⟨ga0, gt0, ca0, mo0, mb0, by rw [cl0]; rfl⟩
      · exact ⟨ga1, gt1, ca1, mo1, mb1, by rw [cl1]; rfl⟩
      · exact ⟨ga2, gt2, ca2, mo2, mb2, by rw [cl2]; rfl⟩
      · exact ⟨ga3, gt3, ca3, mo3, mb3, by rw [cl3]; rfl⟩
      · exact ⟨ga4, gt4, ca4, mo4, mb4, by rw [cl4]; rfl⟩
      · exact ⟨ga5, gt5, ca5, mo5, mb5, by rw [cl5]; rfl⟩
      · exact ⟨ga6, gt6, ca6, mo6, mb6, by rw [cl6]; rfl⟩
    case kit =>
      intro n m hn hm
      match n, m, hn, hm with
      | 0, 0, _, _ => exact k00
      | 0, 1, _, _ => exact k01
      | 0, 2, _, _ => exact k02
      | 0, 3, _, _ => exact k03
      | 0, 4, _, _ => exact k04
      | 0, 5, _, _ => exact k05
      | 0, 6, _, _ => exact k06
      | 1, 0, _, _ => exact k10
      | 1, 1, _, _ => exact k11
      | 1, 2, _, _ => exact k12
      | 1, 3, _, _ => exact k13
      | 1, 4, _, _ => exact k14
      | 1, 5, _, _ => exact k15
      | 1, 6, _, _ => exact k16
      | 2, 0, _, _ => exact k20
      | 2, 1, _, _ => exact k21
      | 2, 2, _, _ => exact k22
      | 2, 3, _, _ => exact k23
      | 2, 4, _, _ => exact k24
      | 2, 5, _, _ => exact k25
      | 2, 6, _, _ => exact k26
      | 3, 0, _, _ => exact k30
      | 3, 1, _, _ => exact k31
      | 3, 2, _, _ => exact k32
      | 3, 3, _, _ => exact k33
      | 3, 4, _, _ => exact k34
      | 3, 5, _, _ => exact k35
      | 3, 6, _, _ => exact k36
      | 4, 0, _, _ => exact k40
      | 4, 1, _, _ => exact k41
      | 4, 2, _, _ => exact k42
      | 4, 3, _, _ => exact k43
      | 4, 4, _, _ => exact k44
      | 4, 5, _, _ => exact k45
      | 4, 6, _, _ => exact k46
      | 5, 0, _, _ => exact k50
      | 5, 1, _, _ => exact k51
      | 5, 2, _, _ => exact k52
      | 5, 3, _, _ => exact k53
      | 5, 4, _, _ => exact k54
      | 5, 5, _, _ => exact k55
      | 5, 6, _, _ => exact k56
      | 6, 0, _, _ => exact k60
      | 6, 1, _, _ => exact k61
      | 6, 2, _, _ => exact k62
      | 6, 3, _, _ => exact k63
      | 6, 4, _, _ => exact k64
      | 6, 5, _, _ => exact k65
      | 6, 6, _, _ => exact k66
      | n + 7, _, hn, _ => exact absurd hn (by omega)
      | _, m + 7, _, hm => exact absurd hm (by omega)
    case kitV =>
      intro n
      match n with
      | 0 => exact kv0
      | 1 => exact kv1
      | 2 => exact kv2
      | 3 => exact kv3
      | 4 => exact kv4
      | 5 => exact kv5
      | n + 6 => exact kv6
    case hi =>
      intro n hn
      match n, hn with
      | n + 6, _ => rfl
  have o_is_letter := ok_is_letter (P := P) (w := w) B  ⟨PySem.W.mg_of X G a_is_letter, _, fun_mk (st := s_is_letter) l_is_letter c_is_letter k_is_letter⟩
  have o_need_fit := ok_need_fit (P := P) (w := w) B  ⟨PySem.W.mg_of X G a_need_fit, _, fun_mk (st := s_need_fit) l_need_fit c_need_fit k_need_fit⟩
  have o_column_from_below := ok_column_from_below (P := P) (w := w) B  ⟨PySem.W.mg_of X G a_column_from_below, _, fun_mk (st := s_column_from_below) l_column_from_below c_column_from_below k_column_from_below⟩
  have o_law_cell := ok_law_cell (P := P) (w := w) B  ⟨PySem.W.mg_of X G a_law_cell, _, fun_mk (st := s_law_cell) l_law_cell c_law_cell k_law_cell⟩
  have o_law_cells := ok_law_cells (P := P) (w := w) B  ⟨PySem.W.mg_of X G a_law_cells, _, fun_mk (st := s_law_cells) l_law_cells c_law_cells k_law_cells⟩
  have o_law_refused := ok_law_refused (P := P) (w := w) B  ⟨PySem.W.mg_of X G a_law_refused, _, fun_mk (st := s_law_refused) l_law_refused c_law_refused k_law_refused⟩
  have o_is_row := ok_is_row (P := P) (w := w) B o_is_letter ⟨PySem.W.mg_of X G a_is_row, _, fun_mk (st := s_is_row) l_is_row c_is_row k_is_row⟩
  have o_law_drawn := ok_law_drawn (P := P) (w := w) B o_law_cell ⟨PySem.W.mg_of X G a_law_drawn, _, fun_mk (st := s_law_drawn) l_law_drawn c_law_drawn k_law_drawn⟩
  have o_is_board := ok_is_board (P := P) (w := w) B o_is_row ⟨PySem.W.mg_of X G a_is_board, _, fun_mk (st := s_is_board) l_is_board c_is_board k_is_board⟩
  have o_law_board := ok_law_board (P := P) (w := w) B o_law_drawn ⟨PySem.W.mg_of X G a_law_board, _, fun_mk (st := s_law_board) l_law_board c_law_board k_law_board⟩
  have o_need_board := ok_need_board (P := P) (w := w) B o_is_board ⟨PySem.W.mg_of X G a_need_board, _, fun_mk (st := s_need_board) l_need_board c_need_board k_need_board⟩
  have o_turned := ok_turned (P := P) (w := w) B o_need_board o_column_from_below ⟨PySem.W.mg_of X G a_turned, _, fun_mk (st := s_turned) l_turned c_turned k_turned⟩
  have o_mirrored := ok_mirrored (P := P) (w := w) B o_need_board ⟨PySem.W.mg_of X G a_mirrored, _, fun_mk (st := s_mirrored) l_mirrored c_mirrored k_mirrored⟩
  have o_stacked := ok_stacked (P := P) (w := w) B o_need_board o_need_fit ⟨PySem.W.mg_of X G a_stacked, _, fun_mk (st := s_stacked) l_stacked c_stacked k_stacked⟩
  have o_letters := ok_letters (P := P) (w := w) B o_need_board ⟨PySem.W.mg_of X G a_letters, _, fun_mk (st := s_letters) l_letters c_letters k_letters⟩
  have o_law_told := ok_law_told (P := P) (w := w) B o_stacked o_law_refused o_turned o_mirrored o_letters ⟨PySem.W.mg_of X G a_law_told, _, fun_mk (st := s_law_told) l_law_told c_law_told k_law_told⟩
  exact okF_law B o_law_board o_law_told o_law_cells o_law_drawn o_turned o_is_board o_mirrored (fun_mk (st := s_law) l_law c_law k_law)
end K1
open PySem PySem.W PyProof.Rows
set_option maxHeartbeats 0 in
theorem PySem.Challenge.cw_cellpatches_k02_turns_holds : PySem.Challenge.rw_cellpatches_k02_turns.Holds := by
  w_on; o_law; k_head; (case hw => w_witness2)
  k_fill
  refine L3.walkD (l := PySem.Challenge.rw_cellpatches_k02_turns) (k := 7) (n := 63) (x := "_law_script") (g := K1.f_law) rfl (by decide) rfl ⟨rfl, by decide, by decide⟩ (fun w h Y => PySem.W.kIn_of Y) K1.law_true ?F
  case F =>
    intro w mg fa h KX G hmg
    refine' K1.all_mk KX G hmg ?a_is_letter ?l_is_letter ?c_is_letter ?k_is_letter ?a_is_row ?l_is_row ?c_is_row ?k_is_row ?a_is_board ?l_is_board ?c_is_board ?k_is_board ?a_need_board ?l_need_board ?c_need_board ?k_need_board ?a_need_fit ?l_need_fit ?c_need_fit ?k_need_fit ?a_column_from_below ?l_column_from_below ?c_column_from_below ?k_column_from_below ?a_turned ?l_turned ?c_turned ?k_turned ?a_mirrored ?l_mirrored ?c_mirrored ?k_mirrored ?a_stacked ?l_stacked ?c_stacked ?k_stacked ?a_letters ?l_letters ?c_letters ?k_letters ?a_law_cell ?l_law_cell ?c_law_cell ?k_law_cell ?a_law_drawn ?l_law_drawn ?c_law_drawn ?k_law_drawn ?a_law_board ?l_law_board ?c_law_board ?k_law_board ?a_law_cells ?l_law_cells ?c_law_cells ?k_law_cells ?a_law_refused ?l_law_refused ?c_law_refused ?k_law_refused ?a_law_told ?l_law_told ?c_law_told ?k_law_told ?a_law ?l_law ?c_law ?k_law ?z_len ?z_isinstance ?z_all ?z_range ?z_str ?z_tuple ?z_list ?z_ValueError ?z_reversed ?y_LETTERS ?y_MOST_ROWS ?y_MOST_COLUMNS ?e0 ?e1 ?e2 ?e3 ?e4 ?e5 ?e6 ?ep ?sp ?q0 ?ga0 ?gt0 ?ca0 ?mo0 ?mb0 ?cl0 ?kp0 ?kv0 ?np0 ?k00 ?k01 ?k02 ?k03 ?k04 ?k05 ?k06 ?q1 ?ga1 ?gt1 ?ca1 ?mo1 ?mb1 ?cl1 ?kp1 ?kv1 ?np1 ?k10 ?k11 ?k12 ?k13 ?k14 ?k15 ?k16 ?q2 ?ga2 ?gt2 ?ca2 ?mo2 ?mb2 ?cl2 ?kp2 ?kv2 ?np2 ?k20 ?k21 ?k22 ?k23 ?k24 ?k25 ?k26 ?q3 ?ga3 ?gt3 ?ca3 ?mo3 ?mb3 ?cl3 ?kp3 ?kv3 ?np3 ?k30 ?k31 ?k32 ?k33 ?k34 ?k35 ?k36 ?q4 ?ga4 ?gt4 ?ca4 ?mo4 ?mb4 ?cl4 ?kp4 ?kv4 ?np4 ?k40 ?k41 ?k42 ?k43 ?k44 ?k45 ?k46 ?q5 ?ga5 ?gt5 ?ca5 ?mo5 ?mb5 ?cl5 ?kp5 ?kv5 ?np5 ?k50 ?k51 ?k52 ?k53 ?k54 ?k55 ?k56 ?q6 ?ga6 ?gt6 ?ca6 ?mo6 ?mb6 ?cl6 ?kp6 ?kv6 ?np6 ?k60 ?k61 ?k62 ?k63 ?k64 ?k65 ?k66
    (case a_is_letter => k_is)
    (case l_is_letter => k_is)
    (case c_is_letter => k_is)
    (case k_is_letter => k_is)
    (case a_is_row => k_is)
    (case l_is_row => k_is)
    (case c_is_row => k_is)
    (case k_is_row => k_is)
    (case a_is_board => k_is)
    (case l_is_board => k_is)
    (case c_is_board => k_is)
    (case k_is_board => k_is)
    (case a_need_board => k_is)
    (case l_need_board => k_is)
    (case c_need_board => k_is)
    (case k_need_board => k_is)
    (case a_need_fit => k_is)
    (case l_need_fit => k_is)
    (case c_need_fit => k_is)
    (case k_need_fit => k_is)
    (case a_column_from_below => k_is)
    (case l_column_from_below => k_is)
    (case c_column_from_below => k_is)
    (case k_column_from_below => k_is)
    (case a_turned => k_is)
    (case l_turned => k_is)
    (case c_turned => k_is)
    (case k_turned => k_is)
    (case a_mirrored => k_is)
    (case l_mirrored => k_is)
    (case c_mirrored => k_is)
    (case k_mirrored => k_is)
    (case a_stacked => k_is)
    (case l_stacked => k_is)
    (case c_stacked => k_is)
    (case k_stacked => k_is)
    (case a_letters => k_is)
    (case l_letters => k_is)
    (case c_letters => k_is)
    (case k_letters => k_is)
    (case a_law_cell => k_is)
    (case l_law_cell => k_is)
    (case c_law_cell => k_is)
    (case k_law_cell => k_is)
    (case a_law_drawn => k_is)
    (case l_law_drawn => k_is)
    (case c_law_drawn => k_is)
    (case k_law_drawn => k_is)
    (case a_law_board => k_is)
    (case l_law_board => k_is)
    (case c_law_board => k_is)
    (case k_law_board => k_is)
    (case a_law_cells => k_is)
    (case l_law_cells => k_is)
    (case c_law_cells => k_is)
    (case k_law_cells => k_is)
    (case a_law_refused => k_is)
    (case l_law_refused => k_is)
    (case c_law_refused => k_is)
    (case k_law_refused => k_is)
    (case a_law_told => k_is)
    (case l_law_told => k_is)
    (case c_law_told => k_is)
    (case k_law_told => k_is)
    (case a_law => k_is)
    (case l_law => k_is)
    (case c_law => k_is)
    (case k_law => k_is)
    (case z_len => k_is)
    (case z_isinstance => k_is)
    (case z_all => k_is)
    (case z_range => k_is)
    (case z_str => k_is)
    (case z_tuple => k_is)
    (case z_list => k_is)
    (case z_ValueError => k_is)
    (case z_reversed => k_is)
    (case y_LETTERS => k_is)
    (case y_MOST_ROWS => k_is)
    (case y_MOST_COLUMNS => k_is)
    (case e0 => k_is)
    (case e1 => k_is)
    (case e2 => k_is)
    (case e3 => k_is)
    (case e4 => k_is)
    (case e5 => k_is)
    (case e6 => k_is)
    (case ep => k_is)
    (case sp => k_is)
    (case q0 => k_exc)
    (case ga0 => k_is)
    (case gt0 => k_is)
    (case ca0 => k_is)
    (case mo0 => k_is)
    (case mb0 => k_is)
    (case cl0 => k_is)
    (case kp0 => kit_is)
    (case kv0 => kit_is)
    (case np0 => rfl)
    (case k00 => kit_is)
    (case k01 => kit_is)
    (case k02 => kit_is)
    (case k03 => kit_is)
    (case k04 => kit_is)
    (case k05 => kit_is)
    (case k06 => kit_is)
    (case q1 => k_exc)
    (case ga1 => k_is)
    (case gt1 => k_is)
    (case ca1 => k_is)
    (case mo1 => k_is)
    (case mb1 => k_is)
    (case cl1 => k_is)
    (case kp1 => kit_is)
    (case kv1 => kit_is)
    (case np1 => rfl)
    (case k10 => kit_is)
    (case k11 => kit_is)
    (case k12 => kit_is)
    (case k13 => kit_is)
    (case k14 => kit_is)
    (case k15 => kit_is)
    (case k16 => kit_is)
    (case q2 => k_exc)
    (case ga2 => k_is)
    (case gt2 => k_is)
    (case ca2 => k_is)
    (case mo2 => k_is)
    (case mb2 => k_is)
    (case cl2 => k_is)
    (case kp2 => kit_is)
    (case kv2 => kit_is)
    (case np2 => rfl)
    (case k20 => kit_is)
    (case k21 => kit_is)
    (case k22 => kit_is)
    (case k23 => kit_is)
    (case k24 => kit_is)
    (case k25 => kit_is)
    (case k26 => kit_is)
    (case q3 => k_exc)
    (case ga3 => k_is)
    (case gt3 => k_is)
    (case ca3 => k_is)
    (case mo3 => k_is)
    (case mb3 => k_is)
    (case cl3 => k_is)
    (case kp3 => kit_is)
    (case kv3 => kit_is)
    (case np3 => rfl)
    (case k30 => kit_is)
    (case k31 => kit_is)
    (case k32 => kit_is)
    (case k33 => kit_is)
    (case k34 => kit_is)
    (case k35 => kit_is)
    (case k36 => kit_is)
    (case q4 => k_exc)
    (case ga4 => k_is)
    (case gt4 => k_is)
    (case ca4 => k_is)
    (case mo4 => k_is)
    (case mb4 => k_is)
    (case cl4 => k_is)
    (case kp4 => kit_is)
    (case kv4 => kit_is)
    (case np4 => rfl)
    (case k40 => kit_is)
    (case k41 => kit_is)
    (case k42 => kit_is)
    (case k43 => kit_is)
    (case k44 => kit_is)
    (case k45 => kit_is)
    (case k46 => kit_is)
    (case q5 => k_exc)
    (case ga5 => k_is)
    (case gt5 => k_is)
    (case ca5 => k_is)
    (case mo5 => k_is)
    (case mb5 => k_is)
    (case cl5 => k_is)
    (case kp5 => kit_is)
    (case kv5 => kit_is)
    (case np5 => rfl)
    (case k50 => kit_is)
    (case k51 => kit_is)
    (case k52 => kit_is)
    (case k53 => kit_is)
    (case k54 => kit_is)
    (case k55 => kit_is)
    (case k56 => kit_is)
    (case q6 => k_exc)
    (case ga6 => k_is)
    (case gt6 => k_is)
    (case ca6 => k_is)
    (case mo6 => k_is)
    (case mb6 => k_is)
    (case cl6 => k_is)
    (case kp6 => kit_is)
    (case kv6 => kit_is)
    (case np6 => rfl)
    (case k60 => kit_is)
    (case k61 => kit_is)
    (case k62 => kit_is)
    (case k63 => kit_is)
    (case k64 => kit_is)
    (case k65 => kit_is)
    (case k66 => kit_is)
