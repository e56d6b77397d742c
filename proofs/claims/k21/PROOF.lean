import PyProof.Rows.All
import Wide.All
import OpenK.AllK
import Wide.FinOn
import Lean
import PyProof.EqAt
import PyProof.EqKinds
import PyProof.TupleCall
import KE.KTryMore
import KE.KRevIter
import KE.KSortTup
import KE.KDictSum
import KE.KRevSl
import PyProof.Rows.TupDisplay
import PyProof.EnumFor
import PyProof.EnumMake
import PyProof.EnumStmt
import PyProof.DictUpdate
import PySem.Challenge.RW_cellpatches_k21_whole_ways
set_option Elab.async false
set_option linter.all false
set_option maxRecDepth 100000
namespace L2
open PySem PySem.Spec PyProof.Rows

abbrev Key := Sum Int Str
def keyIs : Key → Value → Bool
  | .inl k, v => Value.isInt k v
  | .inr x, v => Value.isStrOf x v
def keyH (w : World) : Key → Int
  | .inl k => hashInt k
  | .inr x => hashStr w x
theorem keyIs_shape : ∀ {k : Key} {v : Value}, keyIs k v = true → (∃ i t, k = Sum.inl i ∧ v = Value.int i t) ∨ (∃ x t, k = Sum.inr x ∧ v = Value.str x t)
  | .inl i, v, h => by
    obtain ⟨t, e⟩ := Value.isInt_shape (k := i) (v := v) h
    exact .inl ⟨i, t, rfl, e⟩
  | .inr x, v, h => by
    obtain ⟨t, e⟩ := Value.isStrOf_shape (x := x) (v := v) h
    exact .inr ⟨x, t, rfl, e⟩
theorem keyIs_int (i : Int) (t : Tok) : keyIs (.inl i) (.int i t) = true := by simp [keyIs, Value.isInt]
theorem keyIs_str (x : Str) (t : Tok) : keyIs (.inr x) (.str x t) = true := by simp [keyIs, Value.isStrOf]
theorem key_ll (a b : Int) : decide ((Sum.inl a : Key) = Sum.inl b) = (a == b) := by
  by_cases e : a = b
  · subst e; simp
  · have h : ¬ (Sum.inl a : Key) = Sum.inl b := fun q => e (Sum.inl.inj q)
    rw [decide_eq_false h]
    exact (beq_eq_false_iff_ne.mpr e).symm
theorem key_rr (a b : Str) : decide ((Sum.inr a : Key) = Sum.inr b) = decide (a = b) := by
  by_cases e : a = b
  · subst e; simp
  · have h : ¬ (Sum.inr a : Key) = Sum.inr b := fun q => e (Sum.inr.inj q)
    rw [decide_eq_false h, decide_eq_false e]
theorem key_lr (a : Int) (b : Str) : decide ((Sum.inl a : Key) = Sum.inr b) = false := decide_eq_false (fun q => nomatch q)
theorem key_rl (a : Str) (b : Int) : decide ((Sum.inr a : Key) = Sum.inl b) = false := decide_eq_false (fun q => nomatch q)

def mixKind (prog : Program) (w : World) : PySem.KeyKind prog w Key where
  is := keyIs
  hash := keyH w
  inj := fun v a b ha hb => by
    rcases keyIs_shape ha with ⟨i, t, rfl, rfl⟩ | ⟨x, t, rfl, rfl⟩
    · rcases keyIs_shape hb with ⟨j, u, rfl, e⟩ | ⟨y, u, rfl, e⟩
      · injection e with e1 _; rw [e1]
      · exact nomatch e
    · rcases keyIs_shape hb with ⟨j, u, rfl, e⟩ | ⟨y, u, rfl, e⟩
      · exact nomatch e
      · injection e with e1 _; rw [e1]
  byValue := fun k v h => by
    rcases keyIs_shape h with ⟨i, t, rfl, rfl⟩ | ⟨x, t, rfl, rfl⟩ <;> rfl
  pyHash := fun hv h => by
    rcases keyIs_shape hv with ⟨i, t, rfl, rfl⟩ | ⟨x, t, rfl, rfl⟩
    · exact wpAny_pyHash_int h
    · exact wpAny_pyHash_str h
  eqBool := fun hu hv h => by
    rcases keyIs_shape hu with ⟨i, t, rfl, rfl⟩ | ⟨x, t, rfl, rfl⟩
    · rcases keyIs_shape hv with ⟨j, u, rfl, rfl⟩ | ⟨y, u, rfl, rfl⟩
      · rw [key_ll] at h; exact wpAny_eqBool_int h
      · rw [key_lr] at h; exact SeqAt.EqAt.int_str i t y u _ _ _ _ h
    · rcases keyIs_shape hv with ⟨j, u, rfl, rfl⟩ | ⟨y, u, rfl, rfl⟩
      · rw [key_rl] at h; exact SeqAt.EqAt.str_int x t j u _ _ _ _ h
      · rw [key_rr] at h; exact wpAny_eqBool_str h
  «strs» := fun k x t v h => by
    rcases keyIs_shape h with ⟨i, u, rfl, e⟩ | ⟨y, u, rfl, e⟩
    · exact nomatch e
    · injection e with e1 _
      subst e1
      cases v <;> rfl

theorem mixKind_int (prog : Program) (w : World) (i : Int) (t : Tok) : (mixKind prog w).is (.inl i) (.int i t) = true := keyIs_int i t
theorem mixKind_str (prog : Program) (w : World) (x : Str) (t : Tok) : (mixKind prog w).is (.inr x) (.str x t) = true := keyIs_str x t
end L2

namespace L2
open PySem PySem.Spec PyProof.Rows

inductive V where
  | non | bl (b : Bool) | int (i : Int) | str (x : Str) | byt (b : Array UInt8) | flt (b : UInt64) | ref (a : Addr) | ty (n : String)
  deriving DecidableEq

def RelV : V → Value → Prop
  | .non, u => u = Value.none
  | .bl b, u => u = Value.bool b
  | .int i, u => ∃ t, u = Value.int i t
  | .str x, u => ∃ t, u = Value.str x t
  | .byt b, u => ∃ t, u = Value.bytes b t
  | .flt b, u => ∃ t, u = Value.float b t
  | .ref a, u => u = Value.ref a
  | .ty n, u => u = Value.type n

abbrev Vals : List V → List Value → Prop := Paired RelV
theorem Vals.length {xs : List V} {us : List Value} (r : Vals xs us) : xs.length = us.length := Paired.length r
theorem Vals.get : ∀ {xs : List V} {us : List Value} {i : Nat} {x : V}, Vals xs us → xs[i]? = some x → ∃ u, us[i]? = some u ∧ RelV x u
  | _, _, _, _, .nil, e => by simp at e
  | _, _, 0, _, .cons r _, e => by simp at e; subst e; exact ⟨_, rfl, r⟩
  | _, _, i + 1, x, .cons _ t, e => by
    obtain ⟨u, h1, h2⟩ := Vals.get (i := i) (x := x) t (by simpa using e)
    exact ⟨u, by simpa using h1, h2⟩
theorem Vals.append : ∀ {xs ys : List V} {us ws : List Value}, Vals xs us → Vals ys ws → Vals (xs ++ ys) (us ++ ws)
  | _, _, _, _, .nil, s => s
  | _, _, _, _, .cons r t, s => .cons r (Vals.append t s)
theorem Vals.take : ∀ {xs : List V} {us : List Value} (n : Nat), Vals xs us → Vals (xs.take n) (us.take n)
  | _, _, 0, _ => .nil
  | _, _, _ + 1, .nil => .nil
  | _, _, n + 1, .cons r t => .cons r (Vals.take n t)
theorem Vals.drop : ∀ {xs : List V} {us : List Value} (n : Nat), Vals xs us → Vals (xs.drop n) (us.drop n)
  | _, _, 0, r => r
  | _, _, _ + 1, .nil => .nil
  | _, _, n + 1, .cons _ t => Vals.drop n t
def RelO : Option V → Option Value → Prop
  | some v, some u => RelV v u
  | none, none => True
  | _, _ => False
def KV {κ : Type} : List (κ × V) → List (κ × Value) → Prop := Paired fun (p : κ × V) (q : κ × Value) => p.1 = q.1 ∧ RelV p.2 q.2

def kV : Key → V
  | .inl i => .int i
  | .inr x => .str x

inductive HO where
  /-- a list -/
  | lst (xs : List V)
  /-- a tuple (never changes) -/
  | tup (xs : List V)
  /-- a dict whose keys are ints and texts; one whose keys are tuples of ints and texts (the empty one is both) -/
  | dK (kvs : List (Key × V)) | dT (kvs : List (List Key × V))
  /-- a set of ints: its members, its size -/
  | set (S : Int → Bool) (n : Nat)
  /-- an instance of the class at C, its dict at dx, its attributes -/
  | ins (C dx : Addr) (fs : List (Str × V))
  /-- the dict of the instance at x -/
  | own (x : Addr)
  /-- the dict of an exception -/
  | xd (fs : List (Str × V))
  /-- a bound method, f of x -/
  | met (f x : Addr)
  /-- a range object lo, lo + 1, .. below hi -/
  | rng (lo hi : Int)
  /-- a thing that is known to the object (the script; a dict while a loop walks it): read, never written while it is so -/
  | frz (o : Obj) (u : HO)
  /-- a code object's table -/
  | tbl (ps : Array Value)
  /-- any other thing, by what is true of its one object (a def of one's own: SetO a S n := HO.ext fun h => ..) -/
  | ext (φ : Heap → Prop)

abbrev Hp := Addr → Option HO
def upd (H : Hp) (a : Addr) (o : HO) : Hp := fun b => if b = a then some o else H b
theorem upd_same {H : Hp} {a : Addr} {o : HO} : upd H a o a = some o := by unfold upd; rw [if_pos rfl]
theorem upd_ne {H : Hp} {a b : Addr} {o : HO} (h : b ≠ a) : upd H a o b = H b := by unfold upd; rw [if_neg h]
theorem ne_of {H : Hp} {a b : Addr} {o u : HO} (h : H a = some o) (h' : H b = some u) (d : o ≠ u) : a ≠ b := by
  intro e; subst e; rw [h] at h'; exact d (Option.some.inj h')
theorem ne_of_none {H : Hp} {a b : Addr} {o : HO} (h : H a = some o) (h' : H b = none) : a ≠ b := by
  intro e; subst e; rw [h] at h'; cases h'

section
variable (P : Program) (w : World)
def ObjOk (H : Hp) (h : Heap) (a : Addr) : HO → Prop
  | .lst xs => xs.length ≤ sizeLine ∧ ∃ (its : List Value) (n : Nat), Vals xs its ∧ h.get? a = some { cls := .type "list", data := .seq its.toArray n }
  | .tup xs => xs.length ≤ sizeLine ∧ ∃ its : List Value, Vals xs its ∧ IsTup h a its.toArray
  | .dK kvs => kvs.length ≤ sizeLine ∧ (a == sysModules) = false ∧ ∃ vs, KV kvs vs ∧ h.DictOf (mixKind P w) a vs
  | .dT kvs => kvs.length ≤ sizeLine ∧ (a == sysModules) = false ∧ ∃ xs : List (List Key × Addr × Value),
      Paired (fun (p : List Key × V) (q : List Key × Addr × Value) => p.1 = q.1 ∧ H q.2.1 = some (.tup (p.1.map kV)) ∧ RelV p.2 q.2.2) kvs xs ∧
      ∃ o es ep, h.get? a = some o ∧ o.ExactDict ∧ o.data = .dict es ep ∧ es.toList = xs.map (entryOfKey (tupleKind (mixKind P w))) ∧ (xs.map (·.1)).Nodup
  | .set S n => h.SetOf (intKind P w) a S n
  | .ins C dx fs => H dx = some (.own a) ∧ fs.length ≤ 1000 ∧ dx ≠ a ∧ h.get? a = some (PySem.W.instObj C dx) ∧
      ∃ mA, h.Ns1 dx mA ∧ (∀ f, RelO (fs.lookup f) (mA f)) ∧ PySem.Within mA (fs.map (·.1))
  | .own _ => ∃ o, h.get? a = some o
  | .xd fs => ∃ mA, h.Ns1 a mA ∧ ∀ f, RelO (fs.lookup f) (mA f)
  | .rng lo hi => ∃ t u v, h.get? a = some { cls := .type "range", data := .fields #[.int lo t, .int hi u, .int 1 v] }
  | .frz o u => h.get? a = some o ∧ ObjOk H h a u
  | .tbl ps => h.get? a = some { cls := .none, data := .fields ps }
  | .met f x => h.get? a = some (PySem.W.methodObj (.ref f) (.ref x))
  | .ext φ => φ h ∧ (∃ o, h.get? a = some o) ∧ ∀ h1 h2 : Heap, φ h1 → (∀ o, h1.get? a = some o → h2.get? a = some o) → φ h2
def HOk (H : Hp) (h : Heap) : Prop := ∀ a o, H a = some o → ObjOk P w H h a o
end

section
variable {P : Program} {w : World} {H H' : Hp} {h h' : Heap} {a : Addr} {o : HO}
theorem ObjOk.lt (x : ObjOk P w H h a o) : a < h.objs.size := by
  cases o with
  | lst xs => obtain ⟨_, _, _, _, e⟩ := x; exact Heap.lt_size e
  | tup xs => obtain ⟨_, _, _, p⟩ := x; exact p.lt
  | dK kvs => obtain ⟨_, _, _, _, o, _, _, e, _⟩ := x; exact Heap.lt_size e
  | dT kvs => obtain ⟨_, _, _, _, o, _, _, e, _⟩ := x; exact Heap.lt_size e
  | set S n => obtain ⟨o, _, _, _, e, _⟩ := x; exact Heap.lt_size e
  | ins C dx fs => obtain ⟨_, _, _, e, _⟩ := x; exact Heap.lt_size e
  | own y => obtain ⟨_, e⟩ := x; exact Heap.lt_size e
  | xd fs => obtain ⟨_, ⟨_, _, _, e, _⟩, _⟩ := x; exact Heap.lt_size e
  | rng lo hi => obtain ⟨_, _, _, e⟩ := x; exact Heap.lt_size e
  | frz ob u => obtain ⟨e, _⟩ := x; exact Heap.lt_size e
  | tbl ps => exact Heap.lt_size (show h.get? a = some _ from x)
  | met f y => exact Heap.lt_size (show h.get? a = some _ from x)
  | ext φ => obtain ⟨_, ⟨_, e⟩, _⟩ := x; exact Heap.lt_size e
theorem Paired.mapP {α β : Type} {F G : α → β → Prop} : ∀ {l₁ : List α} {l₂ : List β}, Paired F l₁ l₂ → (∀ a b, F a b → G a b) → Paired G l₁ l₂
  | _, _, .nil, _ => .nil
  | _, _, .cons r t, f => .cons (f _ _ r) (Paired.mapP t f)
theorem ObjOk.stay (x : ObjOk P w H h a o) (k : ∀ b u, (b = a ∨ H b = some (.own a)) → h.get? b = some u → h'.get? b = some u)
    (ho : ∀ b, H b = some (.own a) → H' b = some (.own a)) (ht : ∀ b xs, H b = some (.tup xs) → H' b = some (.tup xs)) : ObjOk P w H' h' a o := by
  induction o with
  | lst xs => obtain ⟨z, its, n, r, e⟩ := x; exact ⟨z, its, n, r, k _ _ (.inl rfl) e⟩
  | tup xs => obtain ⟨z, its, r, ob, e, c⟩ := x; exact ⟨z, its, r, ob, k _ _ (.inl rfl) e, c⟩
  | dK kvs => obtain ⟨z, y, vs, r, ob, es, ep, e, c⟩ := x; exact ⟨z, y, vs, r, ob, es, ep, k _ _ (.inl rfl) e, c⟩
  | dT kvs =>
    obtain ⟨z, y, xs, r, ob, es, ep, e, c⟩ := x
    exact ⟨z, y, xs, Paired.mapP r fun p q z => ⟨z.1, ht _ _ z.2.1, z.2.2⟩, ob, es, ep, k _ _ (.inl rfl) e, c⟩
  | set S n => obtain ⟨ob, es, ep, t, e, c⟩ := x; exact ⟨ob, es, ep, t, k _ _ (.inl rfl) e, c⟩
  | ins C dx fs =>
    obtain ⟨d, z, ne, e, mA, ⟨od, es, ep, e2, c⟩, r⟩ := x
    exact ⟨ho _ d, z, ne, k _ _ (.inl rfl) e, mA, ⟨od, es, ep, k _ _ (.inr d) e2, c⟩, r⟩
  | own y => obtain ⟨ob, e⟩ := x; exact ⟨ob, k _ _ (.inl rfl) e⟩
  | xd fs => obtain ⟨mA, ⟨od, es, ep, e, c⟩, r⟩ := x; exact ⟨mA, ⟨od, es, ep, k _ _ (.inl rfl) e, c⟩, r⟩
  | rng lo hi => obtain ⟨t, u, v, e⟩ := x; exact ⟨t, u, v, k _ _ (.inl rfl) e⟩
  | frz ob u ih => obtain ⟨e, q⟩ := x; exact ⟨k _ _ (.inl rfl) e, ih q⟩
  | tbl ps =>
    have e : h.get? a = some { cls := .none, data := .fields ps } := x
    show h'.get? a = some { cls := .none, data := .fields ps }
    exact k a _ (.inl rfl) e
  | met f y =>
    have e : h.get? a = some (PySem.W.methodObj (.ref f) (.ref y)) := x
    show h'.get? a = some (PySem.W.methodObj (.ref f) (.ref y))
    exact k a _ (.inl rfl) e
  | ext φ => obtain ⟨p, ⟨o, e⟩, st⟩ := x; exact ⟨st _ _ p fun o q => k _ _ (.inl rfl) q, ⟨o, k _ _ (.inl rfl) e⟩, st⟩
theorem HOk.lt (x : HOk P w H h) (e : H a = some o) : a < h.objs.size := (x a o e).lt
theorem HOk.fresh (x : HOk P w H h) (e : h.objs.size ≤ a) : H a = none := by
  cases q : H a with
  | none => rfl
  | some u => exact absurd (Nat.lt_of_lt_of_le (x.lt q) e) (Nat.lt_irrefl _)
theorem HOk.kept (x : HOk P w H h) (k : ∀ b u, h.get? b = some u → h'.get? b = some u) : HOk P w H h' := fun a o e =>
  (x a o e).stay (fun b u _ q => k b u q) (fun _ q => q) fun _ _ q => q
theorem HOk.laid (x : HOk P w H h) (k : ∀ b u, h.get? b = some u → h'.get? b = some u) (hp : h.objs.size ≤ a) (new : ObjOk P w (upd H a o) h' a o) : HOk P w (upd H a o) h' := fun b u e => by
  have hn := x.fresh hp
  by_cases hb : b = a
  · subst hb; rw [upd_same] at e; cases e; exact new
  · rw [upd_ne hb] at e
    exact (x b u e).stay (fun c v _ q => k c v q) (fun c q => by rw [upd_ne (ne_of_none q hn)]; exact q) fun c xs q => by rw [upd_ne (ne_of_none q hn)]; exact q
end

def Rd (H : Hp) (a : Addr) (u : HO) : Prop := H a = some u ∨ ∃ o, H a = some (.frz o u)
theorem Rd.ok {P : Program} {w : World} {H : Hp} {h : Heap} {a : Addr} {u : HO} (r : Rd H a u) (x : HOk P w H h) : ObjOk P w H h a u := by
  rcases r with r | ⟨o, r⟩
  · exact x a u r
  · obtain ⟨_, q⟩ := x a _ r
    exact q
def Mut : Option HO → Prop
  | some (.lst _) => True
  | some (.dK _) => True
  | some (.dT _) => True
  | some (.set _ _) => True
  | some (.ins _ _ _) => True
  | some (.ext _) => True
  | _ => False
section
variable {P : Program} {w : World} {H : Hp} {h h' : Heap} {x e : Addr} {o' : HO}
theorem HOk.write (ok : HOk P w H h) (mu : Mut (H x)) (he : e = x ∨ H e = some (.own x)) (k : ∀ b u, b ≠ e → h.get? b = some u → h'.get? b = some u) (heo : ∃ u, h'.get? e = some u)
    (new : ObjOk P w (upd H x o') h' x o') : HOk P w (upd H x o') h' := fun b u q => by
  have nown : ∀ c y, H c = some (.own y) → c ≠ x := fun c y r z => by subst z; rw [r] at mu; exact mu
  have ntup : ∀ c xs, H c = some (.tup xs) → c ≠ x := fun c xs r z => by subst z; rw [r] at mu; exact mu
  by_cases hb : b = x
  · subst hb; rw [upd_same] at q; cases q; exact new
  · rw [upd_ne hb] at q
    by_cases hbe : b = e
    · have q' : H b = some (.own x) := by
        rcases he with z | z
        · exact absurd (hbe.trans z) hb
        · rw [hbe]; exact z
      rw [q] at q'; cases q'
      obtain ⟨v, hv⟩ := heo
      exact ⟨v, by rw [hbe]; exact hv⟩
    · refine (ok b u q).stay (fun c v hc r => k c v ?_ r) (fun c r => by rw [upd_ne (nown c b r)]; exact r) fun c xs r => by rw [upd_ne (ntup c xs r)]; exact r
      rcases hc with rfl | hc
      · exact hbe
      · rintro rfl
        rcases he with z | z
        · exact nown c b hc z
        · rw [hc] at z; cases z; exact hb rfl
end

structure Un (fs ex : List Addr) (H H' : Hp) (h h' : Heap) : Prop where
  keep : ∀ b o, h.get? b = some o → H b = none → b ∉ fs → b ∉ ex → h'.get? b = some o
  slot : ∀ b o, h.get? b = some o → H b = none → b ∈ fs → b ∉ ex → ∃ sl, h'.get? b = some { o with slots := sl }
  free : ∀ b o, h.get? b = some o → H b = none → b ∉ ex → H' b = none
  there : ∀ b o, h.get? b = some o → b ∉ ex → ∃ o', h'.get? b = some o'
  tups : ∀ b xs, H b = some (.tup xs) → H' b = some (.tup xs)
  frzs : ∀ b o u, H b = some (.frz o u) → H' b = some (.frz o u)
  tbls : ∀ b ps, H b = some (.tbl ps) → ∃ more, H' b = some (.tbl (ps ++ more))
section
variable {fs fs' ex ex' : List Addr} {H H1 H2 : Hp} {h h1 h2 h' : Heap} {a x e : Addr} {o : HO}
theorem Un.any (u : Un fs ex H H1 h h1) {b : Addr} {ob : Obj} (q : h.get? b = some ob) (n : H b = none) (hx : b ∉ ex) : ∃ sl, h1.get? b = some { ob with slots := sl } := by
  by_cases hb : b ∈ fs
  · exact u.slot b ob q n hb hx
  · exact ⟨ob.slots, u.keep b ob q n hb hx⟩
theorem Un.kept (k : ∀ b u, h.get? b = some u → h'.get? b = some u) : Un fs ex H H h h' :=
  ⟨fun b ob q _ _ _ => k b ob q, fun b ob q _ _ _ => ⟨ob.slots, k b ob q⟩, fun _ _ _ n _ => n, fun b ob q _ => ⟨ob, k b ob q⟩, fun _ _ q => q, fun _ _ _ q => q, fun _ ps q => ⟨#[], by rw [q]; simp⟩⟩
theorem Un.refl : Un fs ex H H h h := Un.kept fun _ _ q => q
theorem Un.laid (k : ∀ b u, h.get? b = some u → h'.get? b = some u) (hp : h.objs.size ≤ a) (hn : H a = none) : Un fs ex H (upd H a o) h h' where
  keep := fun b u q _ _ _ => k b u q
  slot := fun b u q _ _ _ => ⟨u.slots, k b u q⟩
  free := fun b u q n _ => by rw [upd_ne (Nat.ne_of_lt (Nat.lt_of_lt_of_le (Heap.lt_size q) hp))]; exact n
  there := fun b u q _ => ⟨u, k b u q⟩
  tups := fun b xs q => by rw [upd_ne (ne_of_none q hn)]; exact q
  frzs := fun b u xs q => by rw [upd_ne (ne_of_none q hn)]; exact q
  tbls := fun b ps q => ⟨#[], by rw [upd_ne (ne_of_none q hn), q]; simp⟩
theorem Un.write (mu : Mut (H x)) (he : e = x ∨ H e = some (.own x)) (k : ∀ b u, b ≠ e → h.get? b = some u → h'.get? b = some u) (heo : ∃ u, h'.get? e = some u) : Un fs ex H (upd H x o) h h' := by
  have hx : ∀ b, H b = none → b ≠ x := fun b n z => by subst z; rw [n] at mu; exact mu
  have hb : ∀ b, H b = none → b ≠ e := fun b n z => by
    subst z
    rcases he with r | r
    · exact hx b n r
    · rw [n] at r; cases r
  have hm : ∀ b u, H b = some u → ¬ Mut (some u) → b ≠ x := fun b u q nm z => by subst z; rw [q] at mu; exact nm mu
  refine ⟨fun b u q n _ _ => k b u (hb b n) q, fun b u q n _ _ => ⟨u.slots, k b u (hb b n) q⟩, fun b u q n _ => by rw [upd_ne (hx b n)]; exact n, fun b u q _ => ?_,
    fun b xs q => by rw [upd_ne (hm b _ q fun z => z)]; exact q, fun b u xs q => by rw [upd_ne (hm b _ q fun z => z)]; exact q, fun b ps q => ⟨#[], by rw [upd_ne (hm b _ q fun z => z), q]; simp⟩⟩
  by_cases hbe : b = e
  · subst hbe; exact heo
  · exact ⟨u, k b u hbe q⟩
end

def trk (h : Heap) (H : Hp) : List Addr := (List.range h.objs.size).filter fun a => (H a).isSome
def hidT (h : Heap) (H : Hp) : Heap := PySem.W.hideAll h (trk h H)
theorem hidT_size (h : Heap) (H : Hp) : (hidT h H).objs.size = h.objs.size := PySem.W.hideAll_size _ _
theorem hidT_get {h : Heap} {H : Hp} {b : Addr} {o : Obj} (e : h.get? b = some o) (n : H b = none) : (hidT h H).get? b = some o :=
  PySem.W.hideAll_get _ e fun hm => by
    have q : (H b).isSome = true := (List.mem_filter.mp hm).2
    rw [n] at q; simp at q
theorem of_hidT {h : Heap} {H : Hp} {b : Addr} {o : Obj} (e : (hidT h H).get? b = some o) : h.get? b = some o ∧ H b = none := by
  have e' : h.get? b = some o := PySem.W.of_hideAll (trk h H) e
  refine ⟨e', ?_⟩
  cases q : H b with
  | none => rfl
  | some x =>
    have hm : b ∈ trk h H := List.mem_filter.mpr ⟨List.mem_range.mpr (Heap.lt_size e'), by simp [q]⟩
    have z : (hidT h H).get? b = none := PySem.W.hideAll_none (trk h H) hm
    rw [z] at e; cases e

def allNews (g h : Heap) (L : Addr) : List (Addr × Obj) := (List.range h.objs.size).filterMap fun a => if a = L ∨ (g.get? a).isSome = true then none else (h.get? a).map fun o => (a, o)
def rest (g h : Heap) (L d : Addr) : List (Addr × Obj) := (allNews g h L).filter fun p => decide (p.1 ≠ d)
end L2

namespace L2
open PySem PySem.Spec PyProof.Rows

structure Mod (K : PySem.W.Frag) (mg : Str → Option Value) (base : Heap) : Prop where
  kin : K.In base
  glob : base.Ns mainGlobals mg
  blt : ∃ mb, base.Ns builtinsNs mb ∧ ∀ x : Str, x ≠ "__name__" → mb x = bootBuiltins x
  nolimit : base.NoLimit

structure Cx where
  prog : Program
  w : World
  K : PySem.W.Frag
  mg : Str → Option Value
  base : Heap
  A : Around
  N : List Str
  s₀ : Shared
  H₀ : Hp
  env : Env
  outer : List Env
  stack : List Env
  ex : List Addr
  fn : Str → Bool
  calm : Bool
  pn : List (Addr × Obj)
  xe : Value → Shared → Prop
def frs (l : List Env) : List Addr := l.filterMap (·.frame)
abbrev Cx.fs (X : Cx) : List Addr := frs X.outer

def Vis (sc : Scope) (x : Str) : Prop := sc.names.lookup x = some .local ∨ sc.names.lookup x = some .cell ∨ sc.names.lookup x = some .free
def Loc (sc : Scope) (x : Str) : Prop := sc.names.lookup x = some .local ∨ sc.names.lookup x = some .cell
def Look (env : Env) (h : Heap) (m : Str → Option Value) (x : Str) (u : Value) : Prop :=
  (env.kindOf x = some .local ∧ m x = some u) ∨ ((env.kindOf x = some .cell ∨ env.kindOf x = some .free) ∧ ∃ c, env.cells.lookup x = some c ∧ h.IsCell c (some u))

structure Cx.Ok (X : Cx) : Prop where
  mod : Mod X.K X.mg X.base
  kind : X.env.scope.kind = .function
  glob : X.env.globals = mainGlobals
  blt : X.env.builtins = builtinsNs
  above : X.s₀.heap.objs.size ≤ X.env.locals
  inj : ∀ x y c, X.env.cells.lookup x = some c → X.env.cells.lookup y = some c → x = y
  has : ∀ x, (X.env.kindOf x = some .cell ∨ X.env.kindOf x = some .free) → ∃ c, X.env.cells.lookup x = some c
  cab : ∀ x c, X.fn x = true → X.env.cells.lookup x = some c → X.s₀.heap.objs.size ≤ c
  hd : X.calm = true → X.A.handled = none
  frames : X.A.frames = some X.stack
  stk : X.stack = X.outer ∨ (X.stack = X.env :: X.outer ∧ X.env.frame = some X.env.locals)
  exf : ∀ b ∈ X.ex, b ≠ X.env.locals ∧ ∀ x c, X.env.cells.lookup x = some c → c ≠ b
  bs : ∀ b o, X.base.get? b = some o → X.s₀.heap.get? b = some o ∧ X.H₀ b = none
  bsz : X.base.objs.size ≤ X.s₀.heap.objs.size
  noex : ∀ b o, X.base.get? b = some o → b ∉ X.ex
  exfs : ∀ b ∈ X.ex, b ∉ X.fs
  funs : X.s₀.heap.FunFrames X.base X.outer
  frf : ∀ b ∈ X.fs, X.H₀ b = none

structure Inv (X : Cx) (pins : List (Addr × Obj)) (σ : List (Option V)) (H : Hp) (s : Shared) : Prop where
  ok : X.Ok
  os : s.os = X.s₀.os
  bare : AllBare s.gens
  base : Un X.fs X.ex X.H₀ H X.s₀.heap s.heap
  loc : ∃ m, s.heap.Ns X.env.locals m ∧ ∀ (i : Nat) (x : Str) (v : V), X.N[i]? = some x → σ[i]? = some (some v) → Vis X.env.scope x → ∃ u, RelV v u ∧ Look X.env s.heap m x u
  cell : ∀ x c, X.env.cells.lookup x = some c → ∃ v, s.heap.IsCell c v
  free : H X.env.locals = none
  freeC : ∀ x c, X.env.cells.lookup x = some c → H c = none
  pin : ∀ p ∈ X.pn ++ pins, s.heap.get? p.1 = some p.2 ∧ H p.1 = none ∧ p.1 ≠ X.env.locals ∧ p.1 ∉ X.fs ∧ ∀ v, p.2.data ≠ .cell v
  hok : HOk X.prog X.w H s.heap
  len : σ.length = X.N.length

section
variable {X : Cx} {pins : List (Addr × Obj)} {σ : List (Option V)} {H H' : Hp} {s : Shared} {h' : Heap}

theorem Cx.Ok.nofr (ok : X.Ok) {b : Addr} {o : Obj} (e : X.base.get? b = some o) : b ∉ X.fs := fun hb => by
  have := (ok.funs.mem hb).1
  rw [e] at this; cases this
theorem Inv.bs (I : Inv X pins σ H s) : ∀ b o, X.base.get? b = some o → s.heap.get? b = some o ∧ H b = none := fun b o e =>
  ⟨I.base.keep b o (I.ok.bs b o e).1 (I.ok.bs b o e).2 (I.ok.nofr e) (I.ok.noex b o e), I.base.free b o (I.ok.bs b o e).1 (I.ok.bs b o e).2 (I.ok.noex b o e)⟩
theorem Inv.bk (I : Inv X pins σ H s) : ∀ b o, X.base.get? b = some o → s.heap.get? b = some o := fun b o e => (I.bs b o e).1
theorem Inv.mod (I : Inv X pins σ H s) : Mod X.K X.mg X.base := I.ok.mod
theorem Inv.kIn (I : Inv X pins σ H s) : X.K.In s.heap := I.ok.mod.kin.keeps I.bk
theorem Inv.lt (I : Inv X pins σ H s) : X.env.locals < s.heap.objs.size := let ⟨_, hn, _⟩ := I.loc; hn.lt
theorem Inv.sz (I : Inv X pins σ H s) : X.s₀.heap.objs.size ≤ s.heap.objs.size := Nat.le_trans I.ok.above (Nat.le_of_lt I.lt)
theorem Inv.nofs (I : Inv X pins σ H s) {a : Addr} (h : s.heap.objs.size ≤ a) : a ∉ X.fs := fun hb => by
  obtain ⟨_, o, ho, _⟩ := I.ok.funs.mem hb
  exact absurd (Nat.lt_of_lt_of_le (Heap.lt_size ho) (Nat.le_trans I.sz h)) (Nat.lt_irrefl _)
theorem Inv.cne (I : Inv X pins σ H s) : ∀ x c, X.env.cells.lookup x = some c → c ≠ X.env.locals := fun x c e z => by
  obtain ⟨v, o, ho, hd⟩ := I.cell x c e
  obtain ⟨m, ⟨o', es, ep, ho', hd', _⟩, _⟩ := I.loc
  rw [z, ho'] at ho; cases ho; rw [hd'] at hd; cases hd
theorem Inv.funs (I : Inv X pins σ H s) : s.heap.FunFrames X.base X.outer := by
  have all : ∀ (l : List Env), (∀ b ∈ frs l, b ∈ X.fs) → X.s₀.heap.FunFrames X.base l → s.heap.FunFrames X.base l := by
    intro l
    induction l with
    | nil => intro _ _; trivial
    | cons env r ih =>
      intro hs hl
      obtain ⟨hk, ⟨L, o, hf, hn, ho, hd⟩, hr⟩ := hl
      have hL : L ∈ X.fs := hs L (by unfold frs; rw [List.filterMap_cons, hf]; exact List.mem_cons_self)
      obtain ⟨sl, e⟩ := I.base.slot L o ho (I.ok.frf L hL) hL fun z => I.ok.exfs L z hL
      exact ⟨hk, ⟨L, _, hf, hn, e, hd⟩, ih (fun b hb => hs b (by unfold frs; rw [List.filterMap_cons, hf]; exact List.mem_cons_of_mem _ hb)) hr⟩
  exact all X.outer (fun _ hb => hb) I.ok.funs

theorem Inv.stack (I : Inv X pins σ H s) : s.heap.FunFrames X.base X.stack := by
  rcases I.ok.stk with e | ⟨e, hf⟩
  · rw [e]; exact I.funs
  · rw [e]
    obtain ⟨m, hn, _⟩ := I.loc
    refine .cons (by rw [I.ok.kind]; decide) hf hn ?_ I.funs
    exact Heap.get?_none_of_le (Nat.le_trans I.ok.bsz I.ok.above)
theorem Inv.stkSub (I : Inv X pins σ H s) : ∀ b ∈ frs X.stack, b ∈ X.env.locals :: X.fs := fun b hb => by
  rcases I.ok.stk with e | ⟨e, hf⟩
  · rw [e] at hb; exact List.mem_cons_of_mem _ hb
  · rw [e] at hb
    unfold frs at hb
    rw [List.filterMap_cons, hf] at hb
    exact hb
theorem Inv.stkFree (I : Inv X pins σ H s) : ∀ b ∈ frs X.stack, H b = none := fun b hb => by
  rcases List.mem_cons.mp (I.stkSub b hb) with e | hb
  · rw [e]; exact I.free
  · obtain ⟨_, o, ho, _⟩ := I.ok.funs.mem hb
    exact I.base.free b o ho (I.ok.frf b hb) fun z => I.ok.exfs b z hb

theorem Inv.step {g' : Array GenState} {t' : Nat} {d' : Drawn} {ch : List Addr} (I : Inv X pins σ H s)
    (hch : ∀ b ∈ ch, (b ∈ X.ex ∨ X.s₀.heap.objs.size ≤ b) ∧ b ≠ X.env.locals ∧ (∀ x c, X.env.cells.lookup x = some c → c ≠ b) ∧ ∀ p ∈ X.pn ++ pins, p.1 ≠ b)
    (keep : ∀ b o, b ≠ X.env.locals → b ∉ X.fs → b ∉ ch → s.heap.get? b = some o → H b = none → h'.get? b = some o)
    (slot : ∀ b o, b ≠ X.env.locals → b ∈ X.fs → b ∉ ch → s.heap.get? b = some o → H b = none → ∃ sl, h'.get? b = some { o with slots := sl }) (free : ∀ b o, b ∉ ch → s.heap.get? b = some o → H b = none → H' b = none)
    (there : ∀ b o, b ∉ ch → s.heap.get? b = some o → ∃ o', h'.get? b = some o')
    (tups : ∀ b xs, H b = some (.tup xs) → H' b = some (.tup xs)) (frzs : ∀ b o u, H b = some (.frz o u) → H' b = some (.frz o u)) (tbls : ∀ b ps, H b = some (.tbl ps) → ∃ more, H' b = some (.tbl (ps ++ more)))
    (ns : ∀ m, s.heap.Ns X.env.locals m → h'.Ns X.env.locals m) (hok : HOk X.prog X.w H' h') (hg : AllBare g') :
    Inv X pins σ H' { s with heap := h', gens := g', drawn := d', toks := t' } := by
  have neL : ∀ b o, X.s₀.heap.get? b = some o → b ≠ X.env.locals := fun b o e => Nat.ne_of_lt (Nat.lt_of_lt_of_le (Heap.lt_size e) I.ok.above)
  have neC : ∀ b o, X.s₀.heap.get? b = some o → b ∉ X.ex → b ∉ ch := fun b o e hx hb => by
    rcases (hch b hb).1 with z | z
    · exact hx z
    · exact absurd (Nat.lt_of_lt_of_le (Heap.lt_size e) z) (Nat.lt_irrefl _)
  have cellK : ∀ x c, X.env.cells.lookup x = some c → ∀ v, s.heap.IsCell c v → h'.IsCell c v := fun x c e v ⟨o, ho, hd⟩ => by
    have nch : c ∉ ch := fun z => (hch c z).2.2.1 x c e rfl
    by_cases hc : c ∈ X.fs
    · obtain ⟨sl, q⟩ := slot c o (I.cne x c e) hc nch ho (I.freeC x c e)
      exact ⟨_, q, hd⟩
    · exact ⟨o, keep c o (I.cne x c e) hc nch ho (I.freeC x c e), hd⟩
  refine ⟨I.ok, I.os, hg, ⟨fun b o e n hb hx => ?_, fun b o e n hb hx => ?_, fun b o e n hx => ?_, fun b o e hx => ?_, fun b xs e => tups b xs (I.base.tups b xs e), fun b o xs e => frzs b o xs (I.base.frzs b o xs e), fun b ps e => ?_⟩, ?_, fun x c e => ?_, ?_, fun x c e => ?_, fun p hp => ?_, hok, I.len⟩
  · exact keep b o (neL b o e) hb (neC b o e hx) (I.base.keep b o e n hb hx) (I.base.free b o e n hx)
  · obtain ⟨sl, e1⟩ := I.base.slot b o e n hb hx
    obtain ⟨sl', e2⟩ := slot b _ (neL b o e) hb (neC b o e hx) e1 (I.base.free b o e n hx)
    exact ⟨sl', e2⟩
  · obtain ⟨o', e1⟩ := I.base.there b o e hx
    exact free b o' (neC b o e hx) e1 (I.base.free b o e n hx)
  · obtain ⟨o', e1⟩ := I.base.there b o e hx
    exact there b o' (neC b o e hx) e1
  · obtain ⟨m1, e1⟩ := I.base.tbls b ps e
    obtain ⟨m2, e2⟩ := tbls b _ e1
    exact ⟨m1 ++ m2, by rw [e2, Array.append_assoc]⟩
  · obtain ⟨m, hn, hl⟩ := I.loc
    refine ⟨m, ns m hn, fun i x v e1 e2 e3 => ?_⟩
    obtain ⟨u, r, l⟩ := hl i x v e1 e2 e3
    refine ⟨u, r, ?_⟩
    rcases l with l | ⟨k, c, e, z⟩
    · exact .inl l
    · exact .inr ⟨k, c, e, cellK x c e _ z⟩
  · obtain ⟨v, z⟩ := I.cell x c e
    exact ⟨v, cellK x c e v z⟩
  · obtain ⟨m, ⟨o, _, _, ho, _⟩, _⟩ := I.loc
    exact free _ o (fun z => (hch _ z).2.1 rfl) ho I.free
  · obtain ⟨v, o, ho, hd⟩ := I.cell x c e
    exact free c o (fun z => (hch c z).2.2.1 x c e rfl) ho (I.freeC x c e)
  · obtain ⟨e, n, ne, nf, d⟩ := I.pin p hp
    have nch : p.1 ∉ ch := fun z => (hch p.1 z).2.2.2 p hp rfl
    exact ⟨keep p.1 p.2 ne nf nch e n, free p.1 p.2 nch e n, ne, nf, d⟩
theorem Inv.un {t' : Nat} (I : Inv X pins σ H s) (u : Un X.fs [] H H' s.heap h') (hok : HOk X.prog X.w H' h') : Inv X pins σ H' { s with heap := h', toks := t' } := by
  obtain ⟨m, ⟨o, es, ep, ho, r⟩, _⟩ := id I.loc
  obtain ⟨sl, hL⟩ := u.any ho I.free (by simp)
  exact I.step (g' := s.gens) (d' := s.drawn) (ch := []) (fun _ z => nomatch z) (fun b o _ hb _ e n => u.keep b o e n hb (by simp)) (fun b o _ hb _ e n => u.slot b o e n hb (by simp)) (fun b o _ e n => u.free b o e n (by simp)) (fun b o _ e => u.there b o e (by simp)) u.tups u.frzs u.tbls (fun m' hm => by
    obtain ⟨o', es', ep', ho', r'⟩ := hm
    rw [ho] at ho'; cases ho'
    exact ⟨_, es', ep', hL, r'⟩) hok I.bare
theorem Inv.call {g' : Array GenState} {t' : Nat} {d' : Drawn} {ch : List Addr} (I : Inv X pins σ H s) (u : Un (frs X.stack) ch H H' s.heap h') (hok : HOk X.prog X.w H' h') (hg : AllBare g')
    (hch : ∀ b ∈ ch, (b ∈ X.ex ∨ X.s₀.heap.objs.size ≤ b) ∧ b ≠ X.env.locals ∧ (∀ x c, X.env.cells.lookup x = some c → c ≠ b) ∧ ∀ p ∈ X.pn ++ pins, p.1 ≠ b) :
    Inv X pins σ H' { s with heap := h', gens := g', drawn := d', toks := t' } := by
  obtain ⟨m, ⟨o, es, ep, ho, r⟩, _⟩ := id I.loc
  obtain ⟨sl, hL⟩ := u.any ho I.free fun z => (hch _ z).2.1 rfl
  exact I.step (ch := ch) hch (fun b o hL hb hc e n => u.keep b o e n (fun z => (List.mem_cons.mp (I.stkSub b z)).elim hL hb) hc) (fun b o _ _ hc e n => u.any e n hc) (fun b o hc e n => u.free b o e n hc) (fun b o hc e => u.there b o e hc) u.tups u.frzs u.tbls (fun m' hm => by
    obtain ⟨o', es', ep', ho', r'⟩ := hm
    rw [ho] at ho'; cases ho'
    exact ⟨_, es', ep', hL, r'⟩) hok hg
theorem Inv.turned {t' : Nat} {it : Addr} (I : Inv X pins σ H s) (k : ∀ b o, b ≠ it → s.heap.get? b = some o → h'.get? b = some o) (hn : H it = none) (hL : it ≠ X.env.locals)
    (h1 : it ∈ X.ex ∨ X.s₀.heap.objs.size ≤ it) (h2 : ∀ x c, X.env.cells.lookup x = some c → c ≠ it) (h3 : ∀ p ∈ X.pn ++ pins, p.1 ≠ it) : Inv X pins σ H { s with heap := h', toks := t' } := by
  have nit : ∀ b u, H b = some u → b ≠ it := fun b u e z => by rw [z, hn] at e; cases e
  refine I.step (g' := s.gens) (d' := s.drawn) (ch := [it]) (fun b hb => ?_) (fun b o _ _ hc e _ => k b o (fun z => hc (by simp [z])) e) (fun b o _ _ hc e _ => ⟨o.slots, k b o (fun z => hc (by simp [z])) e⟩) (fun _ _ _ _ n => n)
    (fun b o hc e => ⟨o, k b o (fun z => hc (by simp [z])) e⟩) (fun _ _ e => e) (fun _ _ _ e => e) (fun b ps e => ⟨#[], by rw [e]; simp⟩) (fun m hm => ?_) (fun b u e => ?_) I.bare
  · have e : b = it := by simpa using hb
    subst e
    exact ⟨h1, hL, h2, h3⟩
  · obtain ⟨o, es, ep, ho, r⟩ := hm
    exact ⟨o, es, ep, k _ o (Ne.symm hL) ho, r⟩
  · refine (I.hok b u e).stay (fun c v hc q => k c v ?_ q) (fun _ q => q) fun _ _ q => q
    rcases hc with z | z
    · rw [z]; exact nit b u e
    · exact nit c _ z
theorem Inv.tok (I : Inv X pins σ H s) (t : Nat) : Inv X pins σ H { s with toks := t } := I.un (h' := s.heap) (t' := t) Un.refl I.hok
theorem Inv.kept {t' : Nat} (I : Inv X pins σ H s) (k : ∀ b u, s.heap.get? b = some u → h'.get? b = some u) : Inv X pins σ H { s with heap := h', toks := t' } := I.un (Un.kept k) (I.hok.kept k)
theorem Inv.laid {a : Addr} {o : HO} {t' : Nat} (I : Inv X pins σ H s) (k : ∀ b u, s.heap.get? b = some u → h'.get? b = some u) (hp : s.heap.objs.size ≤ a) (new : ObjOk X.prog X.w (upd H a o) h' a o) :
    Inv X pins σ (upd H a o) { s with heap := h', toks := t' } := I.un (Un.laid k hp (I.hok.fresh hp)) (I.hok.laid k hp new)
theorem Inv.write {x e : Addr} {o : HO} {t' : Nat} (I : Inv X pins σ H s) (mu : Mut (H x)) (he : e = x ∨ H e = some (.own x)) (k : ∀ b u, b ≠ e → s.heap.get? b = some u → h'.get? b = some u) (heo : ∃ u, h'.get? e = some u)
    (new : ObjOk X.prog X.w (upd H x o) h' x o) : Inv X pins σ (upd H x o) { s with heap := h', toks := t' } := I.un (Un.write mu he k heo) (I.hok.write mu he k heo new)
theorem Inv.pins_of {pins' : List (Addr × Obj)} (I : Inv X pins σ H s) (h : ∀ p ∈ pins', s.heap.get? p.1 = some p.2 ∧ H p.1 = none ∧ p.1 ≠ X.env.locals ∧ p.1 ∉ X.fs ∧ ∀ v, p.2.data ≠ .cell v) : Inv X pins' σ H s :=
  ⟨I.ok, I.os, I.bare, I.base, I.loc, I.cell, I.free, I.freeC, fun p hp => (List.mem_append.mp hp).elim (fun z => I.pin p (List.mem_append_left _ z)) (h p), I.hok, I.len⟩

theorem nodup_ix {N : List Str} (hN : N.Nodup) {i j : Nat} {x : Str} (a : N[i]? = some x) (b : N[j]? = some x) : i = j := by
  obtain ⟨h1, e1⟩ := List.getElem?_eq_some_iff.mp a
  obtain ⟨h2, e2⟩ := List.getElem?_eq_some_iff.mp b
  exact (List.getElem_inj hN).mp (e1.trans e2.symm)

theorem store_ok2 {M : Model} {A : Around} {E : Value → Shared → Prop} {i : Nat} {x : Str} {v : V} {u : Value} {Q : Unit → Shared → Prop} (I : Inv X pins σ H s) (hN : X.N.Nodup) (hi : X.N[i]? = some x) (hx : Loc X.env.scope x) (r : RelV v u)
    (h : ∀ s', Inv X pins (σ.set i (some v)) H s' → (∃ a, Heap.SameBut a s.heap s'.heap ∧ (a = X.env.locals ∨ X.env.cells.lookup x = some a)) → Q () s') (hf : X.fn x = true ∨ X.env.scope.names.lookup x = some .local := by first | exact .inl rfl | exact .inr rfl | assumption) : wpAny M A (storeName X.env x u) Q E s := by
  obtain ⟨m, hn, hl⟩ := id I.loc
  have hcls : (X.env.scope.kind == .class || (X.env.scope.kind == .module && X.env.locals != X.env.globals)) = false := by rw [I.ok.kind]; rfl
  have hiσ : i < σ.length := by rw [I.len]; exact (List.getElem?_eq_some_iff.mp hi).1
  have cne := I.cne
  have tracked : ∀ {a : Addr} {h' : Heap}, (∃ o, s.heap.get? a = some o ∧ H a = none) → Heap.SameBut a s.heap h' → HOk X.prog X.w H h' := fun {a h'} ha hs b ob e => by
    obtain ⟨_, _, hfree⟩ := ha
    refine (I.hok b ob e).stay (fun c w' hc q => (hs.2 c ?_).trans q) (fun _ q => q) fun _ _ q => q
    rintro rfl
    rcases hc with rfl | hc
    · rw [hfree] at e; cases e
    · rw [hfree] at hc; cases hc
  rcases hx with hk | hk
  · refine wpAny_storeName_local hk hn (fun h' hn' hs => ?_) hcls
    obtain ⟨oL, _, _, hoL, _⟩ := id hn
    refine h _ ⟨I.ok, I.os, I.bare, ⟨fun b o e n hb hx => ?_, fun b o e n hb hx => ?_, I.base.free, fun b o e hx => ?_, I.base.tups, I.base.frzs, I.base.tbls⟩, ⟨_, hn', fun j y v' e1 e2 e3 => ?_⟩, fun y c e => ?_, I.free, I.freeC, fun p hp => ?_, tracked ⟨oL, hoL, I.free⟩ hs, by simpa using I.len⟩ ⟨_, hs, .inl rfl⟩
    · exact (hs.2 b (Nat.ne_of_lt (Nat.lt_of_lt_of_le (Heap.lt_size e) I.ok.above))).trans (I.base.keep b o e n hb hx)
    · obtain ⟨sl, e1⟩ := I.base.slot b o e n hb hx
      exact ⟨sl, (hs.2 b (Nat.ne_of_lt (Nat.lt_of_lt_of_le (Heap.lt_size e) I.ok.above))).trans e1⟩
    · obtain ⟨o', e1⟩ := I.base.there b o e hx
      exact ⟨o', (hs.2 b (Nat.ne_of_lt (Nat.lt_of_lt_of_le (Heap.lt_size e) I.ok.above))).trans e1⟩
    · by_cases hj : j = i
      · subst hj
        rw [hi] at e1; cases e1
        rw [List.getElem?_set_self hiσ] at e2
        cases e2
        exact ⟨u, r, .inl ⟨hk, by simp⟩⟩
      · rw [List.getElem?_set_ne (Ne.symm hj)] at e2
        obtain ⟨u', r', q⟩ := hl j y v' e1 e2 e3
        refine ⟨u', r', ?_⟩
        rcases q with ⟨k, e⟩ | ⟨k, c, e, z⟩
        · refine .inl ⟨k, ?_⟩
          have : y ≠ x := fun e => hj (nodup_ix hN e1 (e ▸ hi))
          simp [this, e]
        · exact .inr ⟨k, c, e, z.sameBut hs (cne y c e)⟩
    · obtain ⟨w', z⟩ := I.cell y c e
      exact ⟨w', z.sameBut hs (cne y c e)⟩
    · obtain ⟨e, n, ne, nf, d⟩ := I.pin p hp
      exact ⟨(hs.2 p.1 ne).trans e, n, ne, nf, d⟩
  · have hfn : X.fn x = true := by
      rcases hf with z | z
      · exact z
      · rw [z] at hk; cases hk
    obtain ⟨c, hc⟩ := I.ok.has x (.inl hk)
    obtain ⟨w', z⟩ := I.cell x c hc
    refine wpAny_storeName_cell I.ok.kind hk hc z (fun h' hc' hs => ?_)
    obtain ⟨oc, hoc, hocd⟩ := id z
    refine h { s with heap := h' } ⟨I.ok, I.os, I.bare, ⟨fun b o e n hb hx => ?_, fun b o e n hb hx => ?_, I.base.free, fun b o e hx => ?_, I.base.tups, I.base.frzs, I.base.tbls⟩, ⟨m, hn.sameBut hs (Ne.symm (cne x c hc)), fun j y v' e1 e2 e3 => ?_⟩, fun y c' e => ?_, I.free, I.freeC, fun p hp => ?_, tracked ⟨oc, hoc, I.freeC x c hc⟩ hs, by simpa using I.len⟩ ⟨c, hs, .inr hc⟩
    · exact (hs.2 b (Nat.ne_of_lt (Nat.lt_of_lt_of_le (Heap.lt_size e) (I.ok.cab x c hfn hc)))).trans (I.base.keep b o e n hb hx)
    · obtain ⟨sl, e1⟩ := I.base.slot b o e n hb hx
      exact ⟨sl, (hs.2 b (Nat.ne_of_lt (Nat.lt_of_lt_of_le (Heap.lt_size e) (I.ok.cab x c hfn hc)))).trans e1⟩
    · obtain ⟨o', e1⟩ := I.base.there b o e hx
      exact ⟨o', (hs.2 b (Nat.ne_of_lt (Nat.lt_of_lt_of_le (Heap.lt_size e) (I.ok.cab x c hfn hc)))).trans e1⟩
    · by_cases hj : j = i
      · subst hj
        rw [hi] at e1; cases e1
        rw [List.getElem?_set_self hiσ] at e2
        cases e2
        exact ⟨u, r, .inr ⟨.inl hk, c, hc, hc'⟩⟩
      · rw [List.getElem?_set_ne (Ne.symm hj)] at e2
        obtain ⟨u', r', q⟩ := hl j y v' e1 e2 e3
        refine ⟨u', r', ?_⟩
        rcases q with q | ⟨k, c', e, z'⟩
        · exact .inl q
        · refine .inr ⟨k, c', e, z'.sameBut hs ?_⟩
          rintro rfl
          exact hj (nodup_ix hN e1 (I.ok.inj _ _ _ e hc ▸ hi))
    · by_cases hcc : c' = c
      · subst hcc; exact ⟨_, hc'⟩
      · obtain ⟨w2, z2⟩ := I.cell y c' e
        exact ⟨w2, z2.sameBut hs hcc⟩
    · obtain ⟨e, n, ne, nf, d⟩ := I.pin p hp
      refine ⟨(hs.2 p.1 ?_).trans e, n, ne, nf, d⟩
      intro q
      rw [q, hoc] at e
      have q' : oc = p.2 := Option.some.inj e
      exact d w' (by rw [← q']; exact hocd)
theorem store_ok {M : Model} {A : Around} {E : Value → Shared → Prop} {i : Nat} {x : Str} {v : V} {u : Value} {Q : Unit → Shared → Prop} (I : Inv X pins σ H s) (hN : X.N.Nodup) (hi : X.N[i]? = some x) (hx : Loc X.env.scope x) (r : RelV v u)
    (h : ∀ s', Inv X pins (σ.set i (some v)) H s' → Q () s') (hf : X.fn x = true ∨ X.env.scope.names.lookup x = some .local := by first | exact .inl rfl | exact .inr rfl | assumption) : wpAny M A (storeName X.env x u) Q E s :=
  store_ok2 I hN hi hx r (fun s' I' _ => h s' I') hf
theorem Inv.call' {s' : Shared} {ch : List Addr} (I : Inv X pins σ H s) (ho : s'.os = s.os) (u : Un (frs X.stack) ch H H' s.heap s'.heap) (hok : HOk X.prog X.w H' s'.heap) (hg : AllBare s'.gens)
    (hch : ∀ b ∈ ch, (b ∈ X.ex ∨ X.s₀.heap.objs.size ≤ b) ∧ b ≠ X.env.locals ∧ (∀ x c, X.env.cells.lookup x = some c → c ≠ b) ∧ ∀ p ∈ X.pn ++ pins, p.1 ≠ b) : Inv X pins σ H' s' := by
  obtain ⟨h', g', d', t', o'⟩ := s'
  have e : o' = s.os := ho
  subst e
  exact I.call (g' := g') (t' := t') (d' := d') u hok hg hch
end

abbrev XK := Value → Option Addr → Hp → Prop
abbrev St := List (Option V)
abbrev VK := V → Hp → Prop
abbrev TE := St → Hp → VK → Prop
abbrev TT := St → Hp → (Bool → Hp → Prop) → Prop
abbrev TA := St → Hp → (List V → Hp → Prop) → Prop
structure Ends where
  nx : St → Hp → Prop
  rt : VK
  bk : St → Hp → Prop := fun _ _ => False
  ct : St → Hp → Prop := fun _ _ => False
abbrev TS := Ends → St → Hp → Prop

def EP (X : Cx) (pins : List (Addr × Obj)) (σ : St) (Q : VK) (u : Value) (s' : Shared) : Prop := ∃ v H', Inv X pins σ H' s' ∧ RelV v u ∧ Q v H'
def TP (X : Cx) (pins : List (Addr × Obj)) (σ : St) (Q : Bool → Hp → Prop) (b : Bool) (s' : Shared) : Prop := ∃ H', Inv X pins σ H' s' ∧ Q b H'
def AP (X : Cx) (pins : List (Addr × Obj)) (σ : St) (Q : List V → Hp → Prop) (us : List Value) (s' : Shared) : Prop := ∃ vs H', Inv X pins σ H' s' ∧ Vals vs us ∧ Q vs H'
def SP (X : Cx) (pins : List (Addr × Obj)) (D : Ends) (f : Flow) (s' : Shared) : Prop :=
  match f with
  | .next => ∃ σ' H', Inv X pins σ' H' s' ∧ D.nx σ' H'
  | .brk => ∃ σ' H', Inv X pins σ' H' s' ∧ D.bk σ' H'
  | .cont => ∃ σ' H', Inv X pins σ' H' s' ∧ D.ct σ' H'
  | .ret u => ∃ v σ' H', Inv X pins σ' H' s' ∧ RelV v u ∧ D.rt v H'

def PE (X : Cx) (e : Expr) (t : TE) : Prop :=
  ∀ (pins : List (Addr × Obj)) (s : Shared) (σ : St) (H : Hp) (Q : VK), Inv X pins σ H s → t σ H Q → wpAny (model X.prog X.w) X.A (eval e X.env) (EP X pins σ Q) X.xe s
def PT (X : Cx) (e : Expr) (t : TT) : Prop :=
  ∀ (pins : List (Addr × Obj)) (s : Shared) (σ : St) (H : Hp) (Q : Bool → Hp → Prop), Inv X pins σ H s → t σ H Q → wpAny (model X.prog X.w) X.A (isTrue e X.env (eval e X.env)) (TP X pins σ Q) X.xe s
def PW (X : Cx) (e : Expr) (t : TT) : Prop :=
  ∀ (whole : Sem Value) (pins : List (Addr × Obj)) (s : Shared) (σ : St) (H : Hp) (Q : Bool → Hp → Prop), Inv X pins σ H s → t σ H Q → wpAny (model X.prog X.w) X.A (isTrue e X.env whole) (TP X pins σ Q) X.xe s
theorem PW.pt {X : Cx} {e : Expr} {t : TT} (h : PW X e t) : PT X e t := h _
def PA (X : Cx) (es : List Expr) (t : TA) : Prop :=
  ∀ (pos : Pos) (pins : List (Addr × Obj)) (s : Shared) (σ : St) (H : Hp) (Q : List V → Hp → Prop), Inv X pins σ H s → t σ H Q → wpAny (model X.prog X.w) X.A (spliced (backTo pos (starEach es X.env))) (AP X pins σ Q) X.xe s
def PS (X : Cx) (st : Stmt) (t : TS) : Prop :=
  ∀ (pins : List (Addr × Obj)) (s : Shared) (σ : St) (H : Hp) (D : Ends), Inv X pins σ H s → t D σ H → wpAny (model X.prog X.w) X.A (exec st X.env) (SP X pins D) X.xe s
def PSs (X : Cx) (st : List Stmt) (t : TS) : Prop :=
  ∀ (pins : List (Addr × Obj)) (s : Shared) (σ : St) (H : Hp) (D : Ends), Inv X pins σ H s → t D σ H → wpAny (model X.prog X.w) X.A (execs st X.env) (SP X pins D) X.xe s
theorem thn {α : Type} {t : Sem α} {Q Q' : α → Shared → Prop} {M : Model} {A : Around} {E : Value → Shared → Prop} {s : Shared} (h : wpAny M A t Q E s) (hQ : ∀ a s, Q a s → Q' a s) : wpAny M A t Q' E s := wpAny_mono h hQ fun _ _ x => x
end L2

namespace L2
open PySem PySem.Spec PyProof.Rows
section
variable {X : Cx}

theorem bin {a b : Expr} {ta tb : TE} (ha : PE X a ta) (hb : PE X b tb) {pins : List (Addr × Obj)} {s : Shared} {σ : St} {H : Hp} {R : V → V → Hp → Prop} (I : Inv X pins σ H s) (h : ta σ H fun x H1 => tb σ H1 fun y H2 => R x y H2)
    {α : Type} {Q : α → Shared → Prop} {f : Value → Value → Sem α}
    (hf : ∀ v u s2 x y H2, Inv X pins σ H2 s2 → RelV x v → RelV y u → R x y H2 → wpAny (model X.prog X.w) X.A (f v u) Q X.xe s2) :
    wpAny (model X.prog X.w) X.A (eval a X.env) (fun v s₁ => wpAny (model X.prog X.w) X.A (eval b X.env) (fun u s₂ => wpAny (model X.prog X.w) X.A (f v u) Q X.xe s₂) X.xe s₁) X.xe s := by
  refine thn (ha pins s σ H _ I h) fun v s1 ⟨x, H1, I1, r1, q1⟩ => ?_
  refine thn (hb pins s1 σ H1 _ I1 q1) fun u s2 ⟨y, H2, I2, r2, q2⟩ => ?_
  exact hf v u s2 x y H2 I2 r1 r2 q2

def tVar (i : Nat) : TE := fun σ H Q => ∃ v, σ[i]? = some (some v) ∧ Q v H
def tC (v : V) : TE := fun _ H Q => Q v H
theorem pe_var {i : Nat} {x : Str} {pos : Pos} (hN : X.N[i]? = some x) (hv : Vis X.env.scope x) (hd : (x == ("__debug__" : Str)) = false := by decide) (hcd : (x == ("__classdict__" : Str)) = false := by decide) : PE X (.Name x pos) (tVar i) := by
  intro pins s σ H Q I h
  obtain ⟨v, e, h⟩ := h
  obtain ⟨m, hn, hl⟩ := I.loc
  obtain ⟨u, r, l⟩ := hl i x v hN e hv
  have fin : EP X pins σ Q u s := ⟨v, H, I, r, h⟩
  rcases l with ⟨hk, hm⟩ | ⟨hk, c, hc, hcell⟩
  · exact wpAny_Name (wpAny_loadName_local I.ok.kind hk hn hm fin) hd
  · rcases hk with hk | hk
    · exact wpAny_Name (wpAny_loadName_cell I.ok.kind hk hc hcell fin) hd
    · exact wpAny_Name (wpAny_loadName_free I.ok.kind hk hc hcell fin hcd) hd
theorem pe_int {i j pos} : PE X (.Constant (.int i) j pos) (tC (.int i)) := fun _ _ _ H _ I h => wpAny_Constant_int ⟨.int i, H, I.tok _, ⟨_, rfl⟩, h⟩
theorem pe_bl {b j pos} : PE X (.Constant (.bool b) j pos) (tC (.bl b)) := fun _ _ _ H _ I h => Constant_bool ⟨.bl b, H, I, rfl, h⟩
theorem pe_non {j pos} : PE X (.Constant .none j pos) (tC .non) := fun _ _ _ H _ I h => Constant_none ⟨.non, H, I, rfl, h⟩
theorem pe_str {x j pos} : PE X (.Constant (.str x) j pos) (tC (.str x)) := fun _ _ _ H _ I h => Calls.Constant_str ⟨.str x, H, I.tok _, ⟨_, rfl⟩, h⟩

def Gl (X : Cx) (x : Str) : Prop := X.env.kindOf x = some .globalImplicit
theorem ld_glob {E : Value → Shared → Prop} {pins : List (Addr × Obj)} {s : Shared} {σ : St} {H : Hp} {x : Str} {u : Value} {pos : Pos} {Q : Value → Shared → Prop} (I : Inv X pins σ H s) (hg : Gl X x) (hm : X.mg x = some u) (h : Q u s)
    (hd : (x == ("__debug__" : Str)) = false := by decide) : wpAny (model X.prog X.w) X.A (eval (.Name x pos) X.env) Q E s :=
  Calls.Name_function_global I.ok.kind hg (Calls.loadGlobal_global (by rw [I.ok.glob]; exact I.mod.glob.keeps I.bk) hm h) hd
theorem ld_blt {E : Value → Shared → Prop} {pins : List (Addr × Obj)} {s : Shared} {σ : St} {H : Hp} {x : Str} {u : Value} {pos : Pos} {Q : Value → Shared → Prop} (I : Inv X pins σ H s) (hg : Gl X x) (hm : X.mg x = none) (hv : bootBuiltins x = some u) (h : Q u s)
    (hn : x ≠ "__name__" := by decide) (hd : (x == ("__debug__" : Str)) = false := by decide) : wpAny (model X.prog X.w) X.A (eval (.Name x pos) X.env) Q E s := by
  obtain ⟨mb, h1, h2⟩ := I.mod.blt
  exact Calls.Name_function_global I.ok.kind hg (Calls.loadGlobal_builtin (by rw [I.ok.glob]; exact I.mod.glob.keeps I.bk) hm (by rw [I.ok.blt]; exact h1.keeps I.bk) ((h2 x hn).trans hv) h) hd
theorem pe_glob {x : Str} {v : V} {u : Value} {pos : Pos} (hg : Gl X x) (hm : X.mg x = some u) (r : RelV v u) (hd : (x == ("__debug__" : Str)) = false := by decide) : PE X (.Name x pos) (tC v) :=
  fun _ _ _ H _ I h => ld_glob I hg hm ⟨v, H, I, r, h⟩ hd
theorem pe_bltn {x : Str} {v : V} {u : Value} {pos : Pos} (hg : Gl X x) (hm : X.mg x = none) (hv : bootBuiltins x = some u) (r : RelV v u) (hn : x ≠ "__name__" := by decide) (hd : (x == ("__debug__" : Str)) = false := by decide) : PE X (.Name x pos) (tC v) :=
  fun _ _ _ H _ I h => ld_blt I hg hm hv ⟨v, H, I, r, h⟩ hn hd

variable {a b : Expr} {ta tb : TE} {pos : Pos}
def PC (X : Cx) (op : CmpOp) (a b : Expr) (t : TE) : Prop :=
  ∀ (pins : List (Addr × Obj)) (s : Shared) (σ : St) (H : Hp) (Q : VK), Inv X pins σ H s → t σ H Q →
    wpAny (model X.prog X.w) X.A (eval a X.env) (fun v s₁ => wpAny (model X.prog X.w) X.A (eval b X.env) (fun u s₂ => wpAny (model X.prog X.w) X.A (compareOp op v u) (EP X pins σ Q) X.xe s₂) X.xe s₁) X.xe s
theorem nobehind (b : Expr) {op : CmpOp} (h : op ≠ .In) (h2 : op ≠ .NotIn) : behindInMarks op b = false := by
  have e1 : (op == CmpOp.In) = false := by cases op <;> first | rfl | exact absurd rfl h
  have e2 : (op == CmpOp.NotIn) = false := by cases op <;> first | rfl | exact absurd rfl h2
  cases b <;> simp [behindInMarks, e1, e2]
theorem pe_cmp {op : CmpOp} {t : TE} (h : PC X op a b t) (h1 : behindInMarks op b = false := by first | exact nobehind _ (by decide) (by decide) | rfl) : PE X (.Compare a [op] [b] pos) t := fun pins s σ H Q I hw => wpAny_Compare1 (h pins s σ H Q I hw) h1
variable {tA tB' : TT} {rest : List Expr}
def tOr (t u : TT) : TT := fun σ H Q => t σ H fun c H1 => if c = true then Q true H1 else u σ H1 Q
def tNot (t : TT) : TT := fun σ H Q => t σ H fun c H1 => Q (!c) H1
theorem pw_or1 (ha : PT X a tA) : PW X (.BoolOp .Or [a] pos) tA := by
  intro wh pins s σ H Q I h
  refine isTrue_or (thn (ha pins s σ H Q I h) fun c s1 e => ?_)
  cases c with
  | false => exact isTrue_or_nil e
  | true => exact e
theorem pw_or (ha : PT X a tA) (hb : PW X (.BoolOp .Or (b :: rest) pos) tB') : PW X (.BoolOp .Or (a :: b :: rest) pos) (tOr tA tB') := by
  intro wh pins s σ H Q I h
  refine isTrue_or (thn (ha pins s σ H _ I h) fun c s1 ⟨H1, I1, q1⟩ => ?_)
  cases c with
  | true => exact ⟨H1, I1, q1⟩
  | false => exact hb wh pins s1 σ H1 Q I1 q1
theorem pt_not (ha : PT X a tA) : PT X (.UnaryOp .Not a pos) (tNot tA) := by
  intro pins s σ H Q I h
  exact isTrue_not (ha pins s σ H (fun c H1 => Q (!c) H1) I h)
def tAndV (ta tb : TE) : TE := fun σ H Q => ta σ H fun x H1 => ∃ c, x = .bl c ∧ if c = true then tb σ H1 Q else Q (.bl false) H1
def tOrV (ta tb : TE) : TE := fun σ H Q => ta σ H fun x H1 => ∃ c, x = .bl c ∧ if c = true then Q (.bl true) H1 else tb σ H1 Q
def tNotV (ta : TE) : TE := fun σ H Q => ta σ H fun x H1 => ∃ c, x = .bl c ∧ Q (.bl (!c)) H1
theorem pe_one {op} {t : TE} (h : PE X a t) : PE X (.BoolOp op [a] pos) t := fun pins s σ H Q I hw => BoolOp_one (h pins s σ H Q I hw)
theorem pe_and (ha : PE X a ta) (hb : PE X (.BoolOp .And (b :: rest) pos) tb) : PE X (.BoolOp .And (a :: b :: rest) pos) (tAndV ta tb) := by
  intro pins s σ H Q I h
  refine BoolOp_and (thn (ha pins s σ H _ I h) fun v s1 ⟨x, H1, I1, r1, q1⟩ => ?_)
  obtain ⟨c, rfl, q1⟩ := q1
  cases r1
  refine wpAny_truthy_bool ?_
  cases c with
  | true => exact hb pins s1 σ H1 Q I1 q1
  | false => exact ⟨.bl false, H1, I1, rfl, q1⟩
theorem pe_or (ha : PE X a ta) (hb : PE X (.BoolOp .Or (b :: rest) pos) tb) : PE X (.BoolOp .Or (a :: b :: rest) pos) (tOrV ta tb) := by
  intro pins s σ H Q I h
  refine BoolOp_or (thn (ha pins s σ H _ I h) fun v s1 ⟨x, H1, I1, r1, q1⟩ => ?_)
  obtain ⟨c, rfl, q1⟩ := q1
  cases r1
  refine wpAny_truthy_bool ?_
  cases c with
  | false => exact hb pins s1 σ H1 Q I1 q1
  | true => exact ⟨.bl true, H1, I1, rfl, q1⟩
theorem pe_not (ha : PE X a ta) : PE X (.UnaryOp .Not a pos) (tNotV ta) := by
  intro pins s σ H Q I h
  refine UnaryOp_ (thn (ha pins s σ H _ I h) fun v s1 ⟨x, H1, I1, r1, q1⟩ => ?_)
  obtain ⟨c, rfl, q1⟩ := q1
  cases r1
  exact not_of (wpAny_truthy_bool ⟨.bl (!c), H1, I1, rfl, q1⟩)
def tIf (t : TT) (ta tb : TE) : TE := fun σ H Q => t σ H fun c H1 => if c = true then ta σ H1 Q else tb σ H1 Q
theorem pe_ifExp {c : Expr} (hc : PT X c tA) (ha : PE X a ta) (hb : PE X b tb) : PE X (.IfExp c a b pos) (tIf tA ta tb) := by
  intro pins s σ H Q I h
  refine wpAny_IfExp (thn (hc pins s σ H _ I h) fun d s1 ⟨H1, I1, q1⟩ => ?_)
  cases d with
  | true => exact ha pins s1 σ H1 Q I1 q1
  | false => exact hb pins s1 σ H1 Q I1 q1
end
end L2

namespace L2
open PySem PySem.Spec PyProof.Rows

def SqL (K : PySem.W.Frag) (H : Hp) (a : Addr) (xs : List V) : Prop :=
  Rd H a (.lst xs) ∨
    ∃ (o : Obj) (its : Array Value) (n : Nat), K.lookup a = some o ∧ o.cls = .type "list" ∧ o.dict = none ∧ o.data = .seq its n ∧ its.size ≤ sizeLine ∧ Vals xs its.toList
def SqT (K : PySem.W.Frag) (H : Hp) (a : Addr) (xs : List V) : Prop :=
  Rd H a (.tup xs) ∨
    ∃ (o : Obj) (its : Array Value) (n : Nat), K.lookup a = some o ∧ o.cls = .type "tuple" ∧ o.data = .seq its n ∧ its.size ≤ sizeLine ∧ Vals xs its.toList
def absV : Value → Option V
  | .none => some .non
  | .bool b => some (.bl b)
  | .int i _ => some (.int i)
  | .str x _ => some (.str x)
  | .bytes b _ => some (.byt b)
  | .float b _ => some (.flt b)
  | .ref a => some (.ref a)
  | .type n => some (.ty n)
  | _ => none
theorem RelV.abs {x : V} {u : Value} (r : RelV x u) : absV u = some x := by
  cases x with
  | non => cases r; rfl
  | bl _ => cases r; rfl
  | int _ => obtain ⟨t, rfl⟩ := r; rfl
  | str _ => obtain ⟨t, rfl⟩ := r; rfl
  | byt _ => obtain ⟨t, rfl⟩ := r; rfl
  | flt _ => obtain ⟨t, rfl⟩ := r; rfl
  | ref _ => cases r; rfl
  | ty _ => cases r; rfl
theorem RelV.inj {x y : V} {u : Value} (r : RelV x u) (q : RelV y u) : x = y := Option.some.inj (r.abs.symm.trans q.abs)
theorem Vals.inj : ∀ {xs ys : List V} {us : List Value}, Vals xs us → Vals ys us → xs = ys
  | _, _, _, .nil, .nil => rfl
  | _, _, _, .cons r t, .cons r' t' => by rw [r.inj r', Vals.inj t t']
section
variable {X : Cx} {pins : List (Addr × Obj)} {σ : St} {H : Hp} {s : Shared} {a : Addr} {xs ys : List V}
theorem SqL.of {K : PySem.W.Frag} (h : H a = some (.lst xs)) : SqL K H a xs := .inl (.inl h)
theorem SqT.of {K : PySem.W.Frag} (h : H a = some (.tup xs)) : SqT K H a xs := .inl (.inl h)
theorem Inv.list (I : Inv X pins σ H s) (h : SqL X.K H a xs) : ∃ its : List Value, Vals xs its ∧ PlainL s.heap a its.toArray ∧ xs.length ≤ sizeLine := by
  rcases h with h | ⟨o, its, n, hk, hc, hd, hs, hz, r⟩
  · obtain ⟨z, its, n, r, e⟩ := h.ok I.hok
    exact ⟨its, r, ⟨_, n, e, rfl, rfl, rfl⟩, z⟩
  · refine ⟨its.toList, r, ⟨o, n, I.kIn a o hk, hc, hd, by simpa using hs⟩, ?_⟩
    have e := r.length
    simp only [Array.length_toList] at e
    omega
theorem Inv.tuple (I : Inv X pins σ H s) (h : SqT X.K H a xs) : ∃ its : List Value, Vals xs its ∧ IsTup s.heap a its.toArray ∧ xs.length ≤ sizeLine := by
  rcases h with h | ⟨o, its, n, hk, hc, hs, hz, r⟩
  · obtain ⟨z, its, r, p⟩ := h.ok I.hok
    exact ⟨its, r, p, z⟩
  · refine ⟨its.toList, r, ⟨o, I.kIn a o hk, hc, n, by simpa using hs⟩, ?_⟩
    have e := r.length
    simp only [Array.length_toList] at e
    omega
theorem Inv.list_inj (I : Inv X pins σ H s) (h : SqL X.K H a xs) (h' : SqL X.K H a ys) : xs = ys := by
  obtain ⟨its, r, ⟨o, n, e, _, _, d⟩, _⟩ := I.list h
  obtain ⟨its', r', ⟨o', n', e', _, _, d'⟩, _⟩ := I.list h'
  rw [e] at e'; cases e'
  rw [d] at d'
  injection d' with d1 _
  have : its = its' := by simpa using congrArg Array.toList d1
  subst this
  exact r.inj r'
theorem Inv.tuple_inj (I : Inv X pins σ H s) (h : SqT X.K H a xs) (h' : SqT X.K H a ys) : xs = ys := by
  obtain ⟨its, r, ⟨o, e, _, n, d⟩, _⟩ := I.tuple h
  obtain ⟨its', r', ⟨o', e', _, n', d'⟩, _⟩ := I.tuple h'
  rw [e] at e'; cases e'
  rw [d] at d'
  injection d' with d1 _
  have : its = its' := by simpa using congrArg Array.toList d1
  subst this
  exact r.inj r'
end

abbrev Cx.wish (X : Cx) (E : Value → Shared → Prop) : Cx := { X with xe := E }
abbrev Cx.nox (X : Cx) : Cx := X.wish fun _ _ => False
theorem Cx.Ok.wish {X : Cx} (ok : X.Ok) (E : Value → Shared → Prop) : (X.wish E).Ok :=
  ⟨ok.mod, ok.kind, ok.glob, ok.blt, ok.above, ok.inj, ok.has, ok.cab, ok.hd, ok.frames, ok.stk, ok.exf, ok.bs, ok.bsz, ok.noex, ok.exfs, ok.funs, ok.frf⟩
theorem Cx.Ok.unwish {X : Cx} {E : Value → Shared → Prop} (ok : (X.wish E).Ok) : X.Ok :=
  ⟨ok.mod, ok.kind, ok.glob, ok.blt, ok.above, ok.inj, ok.has, ok.cab, ok.hd, ok.frames, ok.stk, ok.exf, ok.bs, ok.bsz, ok.noex, ok.exfs, ok.funs, ok.frf⟩
section
variable {X : Cx} {pins : List (Addr × Obj)} {σ : St} {H : Hp} {s : Shared} {E : Value → Shared → Prop}
theorem Inv.wish (I : Inv X pins σ H s) (E : Value → Shared → Prop) : Inv (X.wish E) pins σ H s := ⟨I.ok.wish E, I.os, I.bare, I.base, I.loc, I.cell, I.free, I.freeC, I.pin, I.hok, I.len⟩
theorem Inv.unwish (I : Inv (X.wish E) pins σ H s) : Inv X pins σ H s := ⟨I.ok.unwish, I.os, I.bare, I.base, I.loc, I.cell, I.free, I.freeC, I.pin, I.hok, I.len⟩
theorem SP.unwish {D : Ends} {f : Flow} {s' : Shared} (h : SP (X.wish E) pins D f s') : SP X pins D f s' := by
  cases f with
  | next => obtain ⟨σ', H', I, q⟩ := h; exact ⟨σ', H', I.unwish, q⟩
  | brk => obtain ⟨σ', H', I, q⟩ := h; exact ⟨σ', H', I.unwish, q⟩
  | cont => obtain ⟨σ', H', I, q⟩ := h; exact ⟨σ', H', I.unwish, q⟩
  | ret u => obtain ⟨v, σ', H', I, r, q⟩ := h; exact ⟨v, σ', H', I.unwish, r, q⟩
end

section
variable {X : Cx} {st : Stmt} {rest : List Stmt} {t u : TS} {e : Expr} {te : TE} {pos : Pos}
def tNext : TS := fun D σ H => D.nx σ H
def tSeq (t u : TS) : TS := fun D σ H => t { D with nx := u D } σ H
theorem pss_nil : PSs X [] tNext := fun _ _ σ H _ I h => wpAny_execs_nil ⟨σ, H, I, h⟩
theorem pss_cons (h1 : PS X st t) (h2 : PSs X rest u) : PSs X (st :: rest) (tSeq t u) := by
  intro pins s σ H D I h
  refine wpAny_execs_cons (thn (h1 pins s σ H { D with nx := u D } I h) fun f s1 q => ?_)
  cases f with
  | next =>
    obtain ⟨σ', H', I', q⟩ := q
    exact h2 pins s1 σ' H' D I' q
  | ret v => exact q
  | brk => exact q
  | cont => exact q
theorem pss_one (h1 : PS X st t) : PSs X [st] t := by
  intro pins s σ H D I h
  refine wpAny_execs_cons (thn (h1 pins s σ H D I h) fun f s1 q => ?_)
  cases f with
  | next => exact wpAny_execs_nil q
  | ret v => exact q
  | brk => exact q
  | cont => exact q
theorem Inv.quiet {pins : List (Addr × Obj)} {σ : St} {H : Hp} {s : Shared} (I : Inv X pins σ H s) : interactive X.env = false := by simp [interactive, I.ok.kind]
def tDrop (te : TE) : TS := fun D σ H => te σ H fun _ H1 => D.nx σ H1
theorem ps_expr (he : PE X e te) (hs : swapsWith e none pos.line X.env = pure false := by rfl) : PS X (.Expr e pos) (tDrop te) := by
  intro pins s σ H D I h
  exact wpAny_Expr_any (thn (he pins s σ H _ I h) fun v s1 ⟨x, H1, I1, r1, q1⟩ => ⟨σ, H1, I1, q1⟩) I.quiet hs
def tRet (te : TE) : TS := fun D σ H => te σ H D.rt
theorem ps_ret (he : PE X e te) : PS X (.Return (some e) pos) (tRet te) := by
  intro pins s σ H D I h
  exact wpAny_Return_some (thn (he pins s σ H _ I h) fun v s1 ⟨x, H1, I1, r1, q1⟩ => ⟨x, σ, H1, I1, r1, q1⟩)
def tIfS (c : TT) (t u : TS) : TS := fun D σ H => c σ H fun b H1 => if b = true then t D σ H1 else u D σ H1
theorem ps_if {c : Expr} {a b : List Stmt} {tc : TT} (hc : PT X c tc) (ha : PSs X a t) (hb : PSs X b u) : PS X (.If c a b pos) (tIfS tc t u) := by
  intro pins s σ H D I h
  refine wpAny_If (thn (hc pins s σ H _ I h) fun d s1 ⟨H1, I1, q1⟩ => ?_)
  cases d with
  | true => exact ha pins s1 σ H1 D I1 q1
  | false => exact hb pins s1 σ H1 D I1 q1
end

abbrev TG := V → St → Hp → (St → Hp → Prop) → Prop
abbrev TGs := List V → St → Hp → (St → Hp → Prop) → Prop
def PG (X : Cx) (target : Expr) (t : TG) : Prop :=
  ∀ (pins : List (Addr × Obj)) (s : Shared) (σ : St) (H : Hp) (v : V) (u : Value) (Q : St → Hp → Prop), Inv X pins σ H s → RelV v u → t v σ H Q →
    wpAny (model X.prog X.w) X.A (assign target X.env u) (fun _ s' => ∃ σ' H', Inv X pins σ' H' s' ∧ Q σ' H') X.xe s
def PGs (X : Cx) (ts : List Expr) (t : TGs) : Prop :=
  ∀ (pins : List (Addr × Obj)) (s : Shared) (σ : St) (H : Hp) (vs : List V) (us : List Value) (Q : St → Hp → Prop), Inv X pins σ H s → Vals vs us → t vs σ H Q →
    wpAny (model X.prog X.w) X.A (assignInOrder ((assignEach ts X.env).map (·.2)) us) (fun _ s' => ∃ σ' H', Inv X pins σ' H' s' ∧ Q σ' H') X.xe s
abbrev TSet := V → V → V → Hp → (Hp → Prop) → Prop
section
variable {X : Cx} {pos : Pos}
def gName (i : Nat) : TG := fun v σ H Q => Q (σ.set i (some v)) H
theorem pg_name {i : Nat} {x : Str} (hN : X.N.Nodup) (hi : X.N[i]? = some x) (hx : Loc X.env.scope x) (hf : X.fn x = true ∨ X.env.scope.names.lookup x = some .local := by first | exact .inl rfl | exact .inr rfl | assumption) : PG X (.Name x pos) (gName i) := by
  intro pins s σ H v u Q I r h
  exact wpAny_assign_Name (store_ok I hN hi hx r (fun s' I' => ⟨_, H, I', h⟩) hf)
def gNil : TGs := fun vs σ H Q => vs = [] ∧ Q σ H
def gCons (t : TG) (u : TGs) : TGs := fun vs σ H Q => ∃ v r, vs = v :: r ∧ t v σ H fun σ' H' => u r σ' H' Q
theorem pgs_nil : PGs X [] gNil := by
  intro pins s σ H vs us Q I r h
  obtain ⟨e, h⟩ := h
  subst e
  cases r
  exact assignInOrder_nil ⟨σ, H, I, h⟩
theorem pgs_cons {e : Expr} {es : List Expr} {t : TG} {u : TGs} (h1 : PG X e t) (h2 : PGs X es u)
    (hs : (assignEach (e :: es) X.env).map (·.2) = assign e X.env :: (assignEach es X.env).map (·.2) := by rfl) : PGs X (e :: es) (gCons t u) := by
  intro pins s σ H vs us Q I r h
  obtain ⟨v, vr, e1, h⟩ := h
  subst e1
  cases r with
  | cons r rr =>
    rw [hs]
    refine assignInOrder_cons (thn (h1 pins s σ H _ _ _ I r h) fun _ s1 ⟨σ1, H1, I1, q1⟩ => ?_)
    exact h2 pins s1 σ1 H1 _ _ Q I1 rr q1
def gSub (to ti : TE) (t : TSet) : TG := fun v σ H Q => to σ H fun o H1 => ti σ H1 fun i H2 => t o i v H2 fun H3 => Q σ H3
def tAsg (te : TE) (g : TG) : TS := fun D σ H => te σ H fun x H1 => g x σ H1 D.nx
theorem ps_asg {tg e : Expr} {te : TE} {g : TG} (he : PE X e te) (hg : PG X tg g) (hs : swapsWithSole [tg] e pos.line X.env = pure false := by rfl) (hw : swappedStores [tg] e X.env = pure none := by rfl)
    (h1 : (assignEach [tg] X.env).map (·.2) = [assign tg X.env] := by rfl) : PS X (.Assign [tg] e pos) (tAsg te g) := by
  intro pins s σ H D I h
  refine wpAny_Assign_stores (thn (he pins s σ H _ I h) fun v s1 ⟨x, H1, I1, r1, q1⟩ => ?_) hs hw
  rw [h1]
  exact thn (hg pins s1 σ H1 x v _ I1 r1 q1) fun _ s2 q => q
end

section
variable {X : Cx} {pos : Pos}
def tWhile (c : TT) (tb : TS) : TS := fun D σ H => ∃ W : Nat → St → Hp → Prop, (∃ m, W m σ H) ∧ ∀ m σ H, W m σ H →
  c σ H fun b H1 => if b = true then ∃ N : St → Hp → Prop, (∀ σ' H', N σ' H' → ∃ m', m' < m ∧ W m' σ' H') ∧ tb { D with nx := N, ct := N, bk := D.nx } σ H1 else D.nx σ H1
theorem ps_while {c : Expr} {body : List Stmt} {tc : TT} {tb : TS} (hp : PassesOwn (model X.prog X.w) X.A X.env X.xe) (hc : PT X c tc) (hb : PSs X body tb) : PS X (.While c body [] pos) (tWhile tc tb) := by
  intro pins s σ H D I h
  obtain ⟨W, ⟨m0, w0⟩, turn⟩ := h
  refine wpAny_While (codeAny_whileLoop (fun n s' => ∃ σ' H', Inv X pins σ' H' s' ∧ W n σ' H') ?_ m0 ⟨σ, H, I, w0⟩)
  rintro n s1 ⟨σ1, H1, I1, w1⟩
  refine wpAny_passesOwn hp (thn (hc pins s1 σ1 H1 _ I1 (turn n σ1 H1 w1)) fun b s2 ⟨H2, I2, q2⟩ => ?_)
  cases b with
  | true =>
    obtain ⟨N, hN, q2⟩ := q2
    rw [if_pos rfl]
    refine wpAny_passesOwn hp (thn (hb pins s2 σ1 H2 _ I2 q2) fun f s3 q3 => ?_)
    cases f with
    | next =>
      obtain ⟨σ3, H3, I3, n3⟩ := q3
      obtain ⟨m', hm, w3⟩ := hN σ3 H3 n3
      exact ⟨m', hm, σ3, H3, I3, w3⟩
    | cont =>
      obtain ⟨σ3, H3, I3, n3⟩ := q3
      obtain ⟨m', hm, w3⟩ := hN σ3 H3 n3
      exact ⟨m', hm, σ3, H3, I3, w3⟩
    | brk => exact q3
    | ret v => exact q3
  | false =>
    rw [if_neg Bool.false_ne_true]
    exact wpAny_execs_nil ⟨σ1, H2, I2, q2⟩
end

structure It where
  go : Nat → Hp → Prop
  yld : Nat → Hp → V → Hp → Prop
  stop : Nat → Hp → Prop
def FpOk (X : Cx) (pins : List (Addr × Obj)) (H : Hp) (b : Addr) : Prop :=
  H b = none ∧ b ≠ X.env.locals ∧ b ∉ X.fs ∧ (b ∈ X.ex ∨ X.s₀.heap.objs.size ≤ b) ∧ (∀ x c, X.env.cells.lookup x = some c → c ≠ b) ∧ ∀ p ∈ X.pn ++ pins, p.1 ≠ b
theorem Inv.fpOk {X : Cx} {pins : List (Addr × Obj)} {σ : St} {H H' : Hp} {s : Shared} {b : Addr} (I : Inv X pins σ H s) (hb : s.heap.objs.size ≤ b) (hn : H' b = none) : FpOk X pins H' b := by
  refine ⟨hn, Nat.ne_of_gt (Nat.lt_of_lt_of_le I.lt hb), I.nofs hb, .inr (Nat.le_trans I.sz hb), fun x c e z => ?_, fun p hp z => ?_⟩
  · obtain ⟨v, q⟩ := I.cell x c e
    exact absurd (Nat.lt_of_lt_of_le q.lt (by rw [z]; exact hb)) (Nat.lt_irrefl _)
  · exact absurd (Nat.lt_of_lt_of_le (Heap.lt_size (I.pin p hp).1) (by rw [z]; exact hb)) (Nat.lt_irrefl _)
structure Turn (P : Program) (w : World) (K : PySem.W.Frag) (tg : Expr) (J : It) (fp : List Addr) (it : Addr) (tn : Nat → Heap → Prop) : Prop where
  mem : it ∈ fp
  obj : ∀ i h, tn i h → ∀ b ∈ fp, ∃ o, h.get? b = some o ∧ ∀ v, o.data ≠ .cell v
  keep : ∀ i h h', tn i h → (∀ b ∈ fp, ∀ o, h.get? b = some o → h'.get? b = some o) → tn i h'
  item : ∀ (X : Cx), X.prog = P → X.w = w → X.K = K → X.calm = true → ∀ (i : Nat) (pins : List (Addr × Obj)) (s : Shared) (σ : St) (H : Hp) (E : Value → Shared → Prop), Inv X pins σ H s → (∀ b ∈ fp, FpOk X pins H b) → tn i s.heap → J.go i H →
    wpAny (model P w) X.A (pyNext (.ref it)) (fun r s1 => ∃ u, r = some u ∧
      wpAny (model P w) X.A (letOwnedTupleGo tg (.ref it) u) (fun _ s2 => ∃ x H', Inv X pins σ H' s2 ∧ RelV x u ∧ J.yld i H x H' ∧ tn (i + 1) s2.heap ∧ ∀ b ∈ fp, H' b = none) E s1) E s
  done : ∀ (X : Cx), X.prog = P → X.w = w → X.K = K → X.calm = true → ∀ (i : Nat) (pins : List (Addr × Obj)) (s : Shared) (σ : St) (H : Hp) (E : Value → Shared → Prop), Inv X pins σ H s → (∀ b ∈ fp, FpOk X pins H b) → tn i s.heap → J.stop i H →
    wpAny (model P w) X.A (pyNext (.ref it)) (fun r s1 => r = none ∧ Inv X pins σ H s1) E s
  self : ∀ (A : Around) (i : Nat) (s : Shared) (Q : Value → Shared → Prop) (E : Value → Shared → Prop), tn i s.heap → Q (.ref it) s → wpAny (model P w) A (pyIter (.ref it)) Q E s
abbrev TI := St → Hp → (It → Hp → Prop) → Prop
def PIE (X : Cx) (pins : List (Addr × Obj)) (σ : St) (tg : Expr) (R : It → Hp → Prop) (itv : Value) (s2 : Shared) : Prop :=
  ∃ (it : Addr) (fp : List Addr) (tn : Nat → Heap → Prop) (J : It) (H' : Hp), itv = .ref it ∧ Inv X pins σ H' s2 ∧ Turn X.prog X.w X.K tg J fp it tn ∧ tn 0 s2.heap ∧ (∀ b ∈ fp, FpOk X pins H' b) ∧ R J H'
def PI (X : Cx) (tg iter : Expr) (wi : TI) : Prop :=
  ∀ (pins : List (Addr × Obj)) (s : Shared) (σ : St) (H : Hp) (R : It → Hp → Prop), Inv X pins σ H s → wi σ H R →
    wpAny (model X.prog X.w) X.A (eval iter X.env) (fun v s1 => wpAny (model X.prog X.w) X.A (pyIter v) (PIE X pins σ tg R) X.xe s1) X.xe s

theorem go_of {M : Model} {A : Around} {E : Value → Shared → Prop} {s : Shared} {tg : Expr} {it : Addr} {u : Value} {o : Obj} {n : String} {vs : Array Value} {Q : Unit → Shared → Prop} (ho : s.heap.get? it = some o) (hc : o.cls = .type n) (hd : o.data = .fields vs)
    (hn : ["enumerate", "zip", "dict_itemiterator", "dict_reverseitemiterator", "odict_iterator", "itertools.zip_longest", "itertools.pairwise"].contains n = false) (hQ : Q () s) : wpAny M A (letOwnedTupleGo tg (.ref it) u) Q E s := by
  unfold letOwnedTupleGo
  cases tg <;> first
    | exact wpAny_pure hQ
    | (cases u <;> first
        | exact wpAny_pure hQ
        | (refine wpAny_bind (wpAny_load ho ?_)
           rw [hc, hd]
           show wpAny M A (if (["enumerate", "zip", "dict_itemiterator", "dict_reverseitemiterator", "odict_iterator", "itertools.zip_longest", "itertools.pairwise"].contains n && vs[0]? == some (rawInt _)) = true then _ else _) Q E s
           rw [if_neg (by intro h; rw [hn, Bool.false_and] at h; cases h)]
           exact wpAny_pure hQ))

def Itl (K : PySem.W.Frag) (a : Addr) : It :=
  ⟨fun i H => ∃ xs x, SqL K H a xs ∧ xs[i]? = some x, fun i H x H' => H' = H ∧ ∀ xs, SqL K H a xs → xs[i]? = some x, fun i H => ∃ xs, SqL K H a xs ∧ xs.length ≤ i⟩
def Itt (K : PySem.W.Frag) (a : Addr) : It :=
  ⟨fun i H => ∃ xs x, SqT K H a xs ∧ xs[i]? = some x, fun i H x H' => H' = H ∧ ∀ xs, SqT K H a xs → xs[i]? = some x, fun i H => ∃ xs, SqT K H a xs ∧ xs.length ≤ i⟩
def Itr (lo : Int) (n : Nat) : It := ⟨fun i _ => i < n, fun i H x H' => H' = H ∧ x = .int (lo + i), fun i _ => n ≤ i⟩
theorem turn_list {P : Program} {w : World} {K : PySem.W.Frag} {tg : Expr} (a it : Addr) : Turn P w K tg (Itl K a) [it] it (fun i h => h.IsListIter it a i) where
  mem := by simp
  obj := fun i h st b hb => by
    have e : b = it := by simpa using hb
    subst e
    obtain ⟨o, e, c, d⟩ := st
    exact ⟨o, e, fun v z => by rw [d] at z; cases z⟩
  keep := fun i h h' st k => st.at fun o e => k it (by simp) o e
  item := by
    intro X hP hw hK hc i pins s σ H E I hf st hg
    subst hP hw hK
    obtain ⟨xs, x, hq, hx⟩ := hg
    obtain ⟨its, rv, p, hz⟩ := I.list hq
    obtain ⟨u, hu, ru⟩ := rv.get hx
    obtain ⟨f0, f1, f2, f3, f4, f5⟩ := hf it (by simp)
    refine wpAny_pyNext_list_item st p.isList (x := u) (by simpa using hu) fun h' st' sb => ?_
    have I1 : Inv X pins σ H { s with heap := h' } := I.turned (t' := s.toks) (fun b o hb e => (sb.2 b hb).trans e) f0 f1 f3 f4 f5
    obtain ⟨o, e, c, d⟩ := id st'
    exact ⟨u, rfl, go_of (s := { s with heap := h' }) e c d (by decide) ⟨x, H, I1, ru, ⟨rfl, fun ys hy => by rw [I.list_inj hy hq]; exact hx⟩, st', fun b hb => (hf b hb).1⟩⟩
  done := by
    intro X hP hw hK hc i pins s σ H E I hf st hg
    subst hP hw hK
    obtain ⟨xs, hq, hx⟩ := hg
    obtain ⟨its, rv, p, hz⟩ := I.list hq
    obtain ⟨f0, f1, f2, f3, f4, f5⟩ := hf it (by simp)
    have hl := rv.length
    exact wpAny_pyNext_list_end (I.ok.hd hc) st p.isList (by simp; omega) fun h' eb => ⟨rfl, I.turned (t' := s.toks) (fun b o hb e => eb b o hb e) f0 f1 f3 f4 f5⟩
  self := fun _ _ _ _ _ st h => wpAny_pyIter_listiter st h
theorem turn_tuple {P : Program} {w : World} {K : PySem.W.Frag} {tg : Expr} (a it : Addr) : Turn P w K tg (Itt K a) [it] it (fun i h => h.IsTupleIter it a i) where
  mem := by simp
  obj := fun i h st b hb => by
    have e : b = it := by simpa using hb
    subst e
    obtain ⟨o, e, c, d⟩ := st
    exact ⟨o, e, fun v z => by rw [d] at z; cases z⟩
  keep := fun i h h' st k => st.at fun o e => k it (by simp) o e
  item := by
    intro X hP hw hK hc i pins s σ H E I hf st hg
    subst hP hw hK
    obtain ⟨xs, x, hq, hx⟩ := hg
    obtain ⟨its, rv, p, hz⟩ := I.tuple hq
    obtain ⟨u, hu, ru⟩ := rv.get hx
    obtain ⟨f0, f1, f2, f3, f4, f5⟩ := hf it (by simp)
    refine wpAny_pyNext_tuple_item st (show s.heap.IsTuple a its.toArray from p) (x := u) (by simpa using hu) fun h' st' sb => ?_
    have I1 : Inv X pins σ H { s with heap := h' } := I.turned (t' := s.toks) (fun b o hb e => (sb.2 b hb).trans e) f0 f1 f3 f4 f5
    obtain ⟨o, e, c, d⟩ := id st'
    exact ⟨u, rfl, go_of (s := { s with heap := h' }) e c d (by decide) ⟨x, H, I1, ru, ⟨rfl, fun ys hy => by rw [I.tuple_inj hy hq]; exact hx⟩, st', fun b hb => (hf b hb).1⟩⟩
  done := by
    intro X hP hw hK hc i pins s σ H E I hf st hg
    subst hP hw hK
    obtain ⟨xs, hq, hx⟩ := hg
    obtain ⟨its, rv, p, hz⟩ := I.tuple hq
    obtain ⟨f0, f1, f2, f3, f4, f5⟩ := hf it (by simp)
    have hl := rv.length
    exact wpAny_pyNext_tuple_end (I.ok.hd hc) st (show s.heap.IsTuple a its.toArray from p) (by simp; omega) fun h' eb => ⟨rfl, I.turned (t' := s.toks) (fun b o hb e => eb b o hb e) f0 f1 f3 f4 f5⟩
  self := fun _ _ _ _ _ st h => wpAny_pyIter_tupleiter st h
theorem turn_range {P : Program} {w : World} {K : PySem.W.Frag} {tg : Expr} (it : Addr) (lo : Int) (n : Nat) : Turn P w K tg (Itr lo n) [it] it (fun i h => IsRangeIter h it (lo + (i : Nat) * 1) ((n : Int) - (i : Nat)) 1) where
  mem := by simp
  obj := fun i h st b hb => by
    have e : b = it := by simpa using hb
    subst e
    exact ⟨_, st, fun v z => by
      have z' : Data.fields _ = Data.cell v := z
      cases z'⟩
  keep := fun i h h' st k => k it (by simp) _ st
  item := by
    intro X hP hw hK hc i pins s σ H E I hf st hg
    subst hP hw hK
    obtain ⟨f0, f1, f2, f3, f4, f5⟩ := hf it (by simp)
    have W := Walks.range (prog := X.prog) (w := X.w) (I.ok.hd hc) it lo 1 n
    refine W.item i s _ _ hg st fun v h' tk hv st' kk => ?_
    obtain ⟨t, rfl⟩ := hv
    have I1 : Inv X pins σ H { s with heap := h', toks := tk } := I.turned (fun b o hb e => kk b o (by simpa using hb) e) f0 f1 f3 f4 f5
    refine ⟨_, rfl, go_of (s := { s with heap := h', toks := tk }) (n := "range_iterator") st' rfl rfl (by decide) ⟨.int (lo + i), H, I1, ⟨t, ?_⟩, ⟨rfl, rfl⟩, st', fun b hb => (hf b hb).1⟩⟩
    rw [Int.mul_one]
  done := by
    intro X hP hw hK hc i pins s σ H E I hf st hg
    subst hP hw hK
    obtain ⟨f0, f1, f2, f3, f4, f5⟩ := hf it (by simp)
    exact wpAny_pyNext_range_end (I.ok.hd hc) st (by have : n ≤ i := hg; omega) fun h' eb => ⟨rfl, I.turned (t' := s.toks) (fun b o hb e => eb b o hb e) f0 f1 f3 f4 f5⟩
  self := fun _ _ _ _ _ st h => wpAny_pyIter_rangeiter st h
end L2

namespace L2
open PySem PySem.Spec PyProof.Rows
section
variable {X : Cx} {tg : Expr}
def iList (K : PySem.W.Frag) (tl : TE) : TI := fun σ H R => tl σ H fun x H1 => ∃ a, x = .ref a ∧ (∃ xs, SqL K H1 a xs) ∧ R (Itl K a) H1
def iTup (K : PySem.W.Frag) (tl : TE) : TI := fun σ H R => tl σ H fun x H1 => ∃ a, x = .ref a ∧ (∃ xs, SqT K H1 a xs) ∧ R (Itt K a) H1
theorem pi_list {l : Expr} {tl : TE} (hl : PE X l tl) : PI X tg l (iList X.K tl) := by
  intro pins s σ H R I h
  refine thn (hl pins s σ H _ I h) fun v s1 ⟨x, H1, I1, r1, q1⟩ => ?_
  obtain ⟨a, e, ⟨xs, hq⟩, q⟩ := q1
  subst e
  cases r1
  obtain ⟨its, rv, p, hz⟩ := I1.list hq
  refine wpAny_pyIter_list p.isList ?_
  refine ⟨s1.heap.objs.size, [s1.heap.objs.size], _, _, H1, rfl, I1.kept (t' := s1.toks) fun b o e => Heap.get?_push_of_some _ e, turn_list a _, ⟨_, Heap.get?_push_size _ rfl, rfl, rfl⟩, fun b hb => ?_, q⟩
  have e : b = s1.heap.objs.size := by simpa using hb
  subst e
  exact I1.fpOk (Nat.le_refl _) (I1.hok.fresh (Nat.le_refl _))
theorem pi_tup {l : Expr} {tl : TE} (hl : PE X l tl) : PI X tg l (iTup X.K tl) := by
  intro pins s σ H R I h
  refine thn (hl pins s σ H _ I h) fun v s1 ⟨x, H1, I1, r1, q1⟩ => ?_
  obtain ⟨a, e, ⟨xs, hq⟩, q⟩ := q1
  subst e
  cases r1
  obtain ⟨its, rv, p, hz⟩ := I1.tuple hq
  refine wpAny_pyIter_tuple (show s1.heap.IsTuple a its.toArray from p) ?_
  refine ⟨s1.heap.objs.size, [s1.heap.objs.size], _, _, H1, rfl, I1.kept (t' := s1.toks) fun b o e => Heap.get?_push_of_some _ e, turn_tuple a _, ⟨_, Heap.get?_push_size _ rfl, rfl, rfl⟩, fun b hb => ?_, q⟩
  have e : b = s1.heap.objs.size := by simpa using hb
  subst e
  exact I1.fpOk (Nat.le_refl _) (I1.hok.fresh (Nat.le_refl _))
theorem range_it {pins : List (Addr × Obj)} {σ : St} {H : Hp} {s : Shared} {R : It → Hp → Prop} {E : Value → Shared → Prop} {lo hi : Int} {t u v : Tok} {tk : Nat} (I : Inv X pins σ H s) (h1 : -(2 ^ 62) ≤ lo) (h2 : lo < 2 ^ 62) (h3 : -(2 ^ 62) ≤ hi) (h4 : hi < 2 ^ 62)
    (q : R (Itr lo (hi - lo).toNat) H) : wpAny (model X.prog X.w) X.A (pyIter (.ref s.heap.objs.size)) (PIE X pins σ tg R) E { s with heap := s.heap.push { cls := .type "range", data := .fields #[.int lo t, .int hi u, .int 1 v] }, toks := tk } := by
  refine wpAny_pyIter_range (IsRange.new ..) (small_one h1 h2 h3 h4) ?_
  have I1 : Inv X pins σ H { s with heap := s.heap.push { cls := .type "range", data := .fields #[.int lo t, .int hi u, .int 1 v] }, toks := tk } := I.kept fun b o e => Heap.get?_push_of_some _ e
  refine ⟨(s.heap.push { cls := .type "range", data := .fields #[.int lo t, .int hi u, .int 1 v] }).objs.size, [(s.heap.push { cls := .type "range", data := .fields #[.int lo t, .int hi u, .int 1 v] }).objs.size], _, _, H, rfl,
    I1.kept (t' := tk) fun b o e => Heap.get?_push_of_some _ e, turn_range _ lo (hi - lo).toNat, ?_, fun b hb => ?_, q⟩
  · have e1 : lo + ((0 : Nat) : Int) * 1 = lo := by simp
    have e2 : (((hi - lo).toNat : Nat) : Int) - ((0 : Nat) : Int) = Builtin.Range.rangeSize lo hi 1 := by rw [rangeSize_one]; split <;> omega
    show IsRangeIter _ _ (lo + ((0 : Nat) : Int) * 1) ((((hi - lo).toNat : Nat) : Int) - ((0 : Nat) : Int)) 1
    rw [e1, e2]
    exact Heap.get?_push_size _ rfl
  · have e : b = (s.heap.push { cls := .type "range", data := .fields #[.int lo t, .int hi u, .int 1 v] }).objs.size := by simpa using hb
    subst e
    exact I1.fpOk (Nat.le_refl _) (I1.hok.fresh (Nat.le_refl _))
def iRng1 (ta : TA) : TI := fun σ H R => ta σ H fun vs H1 => ∃ j : Int, vs = [.int j] ∧ -(2 ^ 62) ≤ j ∧ j < 2 ^ 62 ∧ R (Itr 0 j.toNat) H1
def iRng2 (ta : TA) : TI := fun σ H R => ta σ H fun vs H1 => ∃ i j : Int, vs = [.int i, .int j] ∧ (-(2 ^ 62) ≤ i ∧ i < 2 ^ 62 ∧ -(2 ^ 62) ≤ j ∧ j < 2 ^ 62) ∧ R (Itr i (j - i).toNat) H1
theorem pi_range1 {a : Expr} {ta : TA} {p pos : Pos} (hg : Gl X "range") (hm : X.mg "range" = none) (ha : PA X [a] ta) (hs : starEach [a] X.env = [(false, eval a X.env)] := by rfl) : PI X tg (.Call (.Name "range" p) [a] [] pos) (iRng1 ta) := by
  intro pins s σ H R I h
  refine Call_ (ld_blt I hg hm boot_range (PyProof.Rows.callWith_type1 (thn (ha pos pins s σ H _ I h) fun us s1 ⟨vs, H1, I1, r1, q1⟩ => ?_) hs rfl))
  obtain ⟨j, e, q1, q2, q⟩ := q1
  subst e
  cases r1 with
  | cons r rr =>
    cases rr
    obtain ⟨t, rfl⟩ := r
    exact call_range_1 (range_it I1 (by omega) (by omega) q1 q2 (by simpa using q))
theorem pi_range2 {a b : Expr} {ta : TA} {p pos : Pos} (hg : Gl X "range") (hm : X.mg "range" = none) (ha : PA X [a, b] ta) (hs : starEach [a, b] X.env = [(false, eval a X.env), (false, eval b X.env)] := by rfl) (hs2 : starEach [b] X.env = [(false, eval b X.env)] := by rfl) :
    PI X tg (.Call (.Name "range" p) [a, b] [] pos) (iRng2 ta) := by
  intro pins s σ H R I h
  refine Call_ (ld_blt I hg hm boot_range (PyProof.Rows.callWith_type1 (thn (ha pos pins s σ H _ I h) fun us s1 ⟨vs, H1, I1, r1, q1⟩ => ?_) (by rw [hs, hs2]) (by rw [hs2]; rfl)))
  obtain ⟨i, j, e, ⟨q1, q2, q3, q4⟩, q⟩ := q1
  subst e
  cases r1 with
  | cons r rr =>
    cases rr with
    | cons r' rr =>
      cases rr
      obtain ⟨t, rfl⟩ := r
      obtain ⟨t', rfl⟩ := r'
      exact call_range_2 (range_it I1 q1 q2 q3 q4 q)

def tFor (wi : TI) (g : TG) (tb : TS) : TS := fun D σ H => wi σ H fun J H1 => ∃ W : Nat → Nat → St → Hp → Prop, (∃ m, W 0 m σ H1) ∧ ∀ i m σ H, W i m σ H →
  (J.stop i H ∧ D.nx σ H) ∨ (J.go i H ∧ ∃ N : St → Hp → Prop, (∀ σ' H', N σ' H' → ∃ m', m' < m ∧ W (i + 1) m' σ' H') ∧ ∀ x H', J.yld i H x H' → g x σ H' fun σ2 H2 => tb { D with nx := N, ct := N, bk := D.nx } σ2 H2)
def pinsAt (fp : List Addr) (h : Heap) : List (Addr × Obj) := fp.filterMap fun b => (h.get? b).map fun o => (b, o)
theorem mem_pinsAt {fp : List Addr} {h : Heap} {b : Addr} {o : Obj} (hb : b ∈ fp) (e : h.get? b = some o) : (b, o) ∈ pinsAt fp h := List.mem_filterMap.mpr ⟨b, hb, by rw [e]; rfl⟩
theorem of_pinsAt {fp : List Addr} {h : Heap} {p : Addr × Obj} (hp : p ∈ pinsAt fp h) : p.1 ∈ fp ∧ h.get? p.1 = some p.2 := by
  obtain ⟨b, hb, e⟩ := List.mem_filterMap.mp hp
  cases q : h.get? b with
  | none => rw [q] at e; cases e
  | some o =>
    rw [q] at e
    have e' : (b, o) = p := Option.some.inj e
    subst e'
    exact ⟨hb, q⟩
theorem Inv.pinned {pins : List (Addr × Obj)} {σ : St} {H : Hp} {s : Shared} {fp : List Addr} (I : Inv X pins σ H s) (hf : ∀ b ∈ fp, FpOk X pins H b) (ho : ∀ b ∈ fp, ∃ o, s.heap.get? b = some o ∧ ∀ v, o.data ≠ .cell v) : Inv X (pins ++ pinsAt fp s.heap) σ H s :=
  I.pins_of fun p hp => (List.mem_append.mp hp).elim (fun z => I.pin p (List.mem_append_right _ z)) fun z => by
    obtain ⟨hb, e⟩ := of_pinsAt z
    obtain ⟨f0, f1, f2, _⟩ := hf p.1 hb
    obtain ⟨o, e', d⟩ := ho p.1 hb
    rw [e] at e'; cases e'
    exact ⟨e, f0, f1, f2, d⟩
theorem Inv.unpinned {pins pl : List (Addr × Obj)} {σ : St} {H : Hp} {s : Shared} (I : Inv X (pins ++ pl) σ H s) : Inv X pins σ H s := I.pins_of fun p hp => I.pin p (List.mem_append_right _ (List.mem_append_left _ hp))
theorem ps_for {iter : Expr} {body : List Stmt} {wi : TI} {g : TG} {tb : TS} {pos : Pos} (hp : PassesOwn (model X.prog X.w) X.A X.env X.xe) (hc : X.calm = true) (hi : PI X tg iter wi) (hg : PG X tg g) (hb : PSs X body tb)
    (hs : ∀ x, foldedSetIterable iter X.env x = pure x := by intro _; rfl) : PS X (.For tg iter body [] pos) (tFor wi g tb) := by
  intro pins s σ H D I h
  refine wpAny_For (thn (hi pins s σ H _ I h) fun v s1 h1 => thn h1 fun itv s2 h2 => ?_) hs
  obtain ⟨it, fp, tn, J, H2, e, I2, T, st2, f2, W, ⟨m0, w0⟩, turn⟩ := h2
  subst e
  -- what stays true of the iterator's objects through the loop
  have stat : ∀ {H' : Hp}, (∀ b ∈ fp, H' b = none) → ∀ b ∈ fp, FpOk X pins H' b := fun hn b hb => ⟨hn b hb, (f2 b hb).2⟩
  refine codeAny_forLoop_any (fun n s' => ∃ i σ' H', Inv X pins σ' H' s' ∧ tn i s'.heap ∧ (∀ b ∈ fp, H' b = none) ∧ W i n σ' H') ?_ m0 ⟨0, σ, H2, I2, st2, fun b hb => (f2 b hb).1, w0⟩
  rintro n s3 ⟨i, σ3, H3, I3, st3, fr3, w3⟩
  rcases turn i n σ3 H3 w3 with ⟨stop, qn⟩ | ⟨go, N, hN, step⟩
  · refine wpAny_passesOwn hp (thn (T.done X rfl rfl rfl hc i pins s3 σ3 H3 X.xe I3 (stat fr3) st3 stop) fun r s4 ⟨hr, I4⟩ => ?_)
    subst hr
    exact wpAny_execs_nil ⟨σ3, H3, I4, qn⟩
  · refine wpAny_passesOwn hp (thn (T.item X rfl rfl rfl hc i pins s3 σ3 H3 X.xe I3 (stat fr3) st3 go) fun r s4 ⟨u, hr, h4⟩ => ?_)
    subst hr
    refine wpAny_passesOwn hp (thn h4 fun _ s5 ⟨x, H5, I5, r5, y5, st5, fr5⟩ => ?_)
    have I5' := I5.pinned (stat fr5) (T.obj _ _ st5)
    refine wpAny_passesOwn hp (thn (hg _ s5 σ3 H5 x u _ I5' r5 (step x H5 y5)) fun _ s6 ⟨σ6, H6, I6, q6⟩ => ?_)
    refine wpAny_passesOwn hp (thn (hb _ s6 σ6 H6 _ I6 q6) fun f s7 q7 => ?_)
    have again : ∀ {σ7 : St} {H7 : Hp}, Inv X (pins ++ pinsAt fp s5.heap) σ7 H7 s7 → N σ7 H7 → ∃ m, m < n ∧ ∃ i σ' H', Inv X pins σ' H' s7 ∧ tn i s7.heap ∧ (∀ b ∈ fp, H' b = none) ∧ W i m σ' H' := fun {σ7 H7} I7 n7 => by
      obtain ⟨m', hm, w7⟩ := hN σ7 H7 n7
      refine ⟨m', hm, i + 1, σ7, H7, I7.unpinned, T.keep _ _ _ st5 fun b hb o e => (I7.pin (b, o) (List.mem_append_right _ (List.mem_append_right _ (mem_pinsAt hb e)))).1, fun b hb => ?_, w7⟩
      obtain ⟨o, e, d⟩ := T.obj _ _ st5 b hb
      exact (I7.pin (b, o) (List.mem_append_right _ (List.mem_append_right _ (mem_pinsAt hb e)))).2.1
    cases f with
    | next => obtain ⟨σ7, H7, I7, n7⟩ := q7; exact again I7 n7
    | cont => obtain ⟨σ7, H7, I7, n7⟩ := q7; exact again I7 n7
    | brk => obtain ⟨σ7, H7, I7, q7⟩ := q7; exact ⟨σ7, H7, I7.unpinned, q7⟩
    | ret v => obtain ⟨x7, σ7, H7, I7, r7, q7⟩ := q7; exact ⟨x7, σ7, H7, I7.unpinned, r7, q7⟩
end

end L2

namespace L2
open PySem PySem.Spec PyProof.Rows

abbrev R2 := V → V → Hp → VK → Prop
def OpR (X : Cx) (f : Value → Value → Sem Value) (r : R2) : Prop :=
  ∀ (pins : List (Addr × Obj)) (s : Shared) (σ : St) (H : Hp) (x y : V) (v u : Value) (Q : VK), Inv X pins σ H s → RelV x v → RelV y u → r x y H Q →
    wpAny (model X.prog X.w) X.A (f v u) (EP X pins σ Q) X.xe s
def UnR (X : Cx) (f : Value → Sem Value) (r : V → Hp → VK → Prop) : Prop :=
  ∀ (pins : List (Addr × Obj)) (s : Shared) (σ : St) (H : Hp) (x : V) (v : Value) (Q : VK), Inv X pins σ H s → RelV x v → r x H Q →
    wpAny (model X.prog X.w) X.A (f v) (EP X pins σ Q) X.xe s
def CallR (X : Cx) (f : Value) (r : List V → Hp → VK → Prop) : Prop :=
  ∀ (pins : List (Addr × Obj)) (s : Shared) (σ : St) (H : Hp) (xs : List V) (us : List Value) (Q : VK), Inv X pins σ H s → Vals xs us → r xs H Q →
    wpAny (model X.prog X.w) X.A (call f us) (EP X pins σ Q) X.xe s
def TruR (X : Cx) (r : V → Hp → (Bool → Hp → Prop) → Prop) : Prop :=
  ∀ (pins : List (Addr × Obj)) (s : Shared) (σ : St) (H : Hp) (x : V) (v : Value) (Q : Bool → Hp → Prop), Inv X pins σ H s → RelV x v → r x H Q →
    wpAny (model X.prog X.w) X.A (truthy v) (TP X pins σ Q) X.xe s

def tOp (r : R2) (ta tb : TE) : TE := fun σ H Q => ta σ H fun x H1 => tb σ H1 fun y H2 => r x y H2 Q
def tUn (r : V → Hp → VK → Prop) (ta : TE) : TE := fun σ H Q => ta σ H fun x H1 => r x H1 Q
def rI (C : Int → Int → Prop) (g : Int → Int → V) : R2 := fun x y H Q => ∃ i j, x = .int i ∧ y = .int j ∧ C i j ∧ Q (g i j) H
def rI0 (g : Int → Int → V) : R2 := fun x y H Q => ∃ i j, x = .int i ∧ y = .int j ∧ Q (g i j) H
def rU (g : Int → V) : V → Hp → VK → Prop := fun x H Q => ∃ i, x = .int i ∧ Q (g i) H

section
variable {X : Cx} {a b c : Expr} {ta tb tc : TE} {pos : Pos}

theorem binT (ha : PE X a ta) (hb : PE X b tb) {pins : List (Addr × Obj)} {s : Shared} {σ : St} {H : Hp} {R : V → V → Hp → Prop} (I : Inv X pins σ H s)
    (h : ta σ H fun x H1 => tb σ H1 fun y H2 => R x y H2) {Q : Value → Shared → Prop} {f : Value → Value → Sem Value}
    (hf : ∀ v u s2 x y H2, Inv X pins σ H2 s2 → RelV x v → RelV y u → R x y H2 → wpAny (model X.prog X.w) X.A (f v u) Q X.xe s2) :
    wpAny (model X.prog X.w) X.A (eval a X.env) (fun v s₁ => wpAny (model X.prog X.w) X.A (eval b X.env) (fun u s₂ => wpAny (model X.prog X.w) X.A (f v u) Q X.xe s₂) X.xe s₁) X.xe s := by
  refine thn (ha pins s σ H _ I h) fun v s1 ⟨x, H1, I1, r1, q1⟩ => ?_
  refine thn (hb pins s1 σ H1 _ I1 q1) fun u s2 ⟨y, H2, I2, r2, q2⟩ => ?_
  exact hf v u s2 x y H2 I2 r1 r2 q2

theorem pe_op {op : Operator} {r : R2} (ho : OpR X (binaryOp op) r) (ha : PE X a ta) (hb : PE X b tb) : PE X (.BinOp a op b pos) (tOp r ta tb) := by
  intro pins s σ H Q I h
  exact wpAny_BinOp (binT ha hb I h fun v u s2 x y H2 I2 rx ry q => ho pins s2 σ H2 x y v u Q I2 rx ry q)
theorem pe_un {op : UnaryOp} {r : V → Hp → VK → Prop} (ho : UnR X (unaryOp op) r) (ha : PE X a ta) : PE X (.UnaryOp op a pos) (tUn r ta) := by
  intro pins s σ H Q I h
  exact UnaryOp_ (thn (ha pins s σ H _ I h) fun v s1 ⟨x, H1, I1, r1, q1⟩ => ho pins s1 σ H1 x v Q I1 r1 q1)
theorem opI {f : Value → Value → Sem Value} {C : Int → Int → Prop} {g : Int → Int → Int}
    (rule : ∀ (i j : Int) (t u : Tok) (s : Shared) (Q : Value → Shared → Prop) (E : Value → Shared → Prop), C i j → Q (.int (g i j) s.toks) { s with toks := s.toks + 1 } → wpAny (model X.prog X.w) X.A (f (.int i t) (.int j u)) Q E s) :
    OpR X f (rI C fun i j => .int (g i j)) := by
  intro pins s σ H x y v u Q I rx ry h
  obtain ⟨i, j, rfl, rfl, hc, q⟩ := h
  obtain ⟨t, rfl⟩ := rx
  obtain ⟨t', rfl⟩ := ry
  exact rule i j t t' s _ _ hc ⟨.int (g i j), H, I.tok _, ⟨_, rfl⟩, q⟩
theorem opI0 {f : Value → Value → Sem Value} {g : Int → Int → Int}
    (rule : ∀ (i j : Int) (t u : Tok) (s : Shared) (Q : Value → Shared → Prop) (E : Value → Shared → Prop), Q (.int (g i j) s.toks) { s with toks := s.toks + 1 } → wpAny (model X.prog X.w) X.A (f (.int i t) (.int j u)) Q E s) :
    OpR X f (rI0 fun i j => .int (g i j)) := by
  intro pins s σ H x y v u Q I rx ry h
  obtain ⟨i, j, rfl, rfl, q⟩ := h
  obtain ⟨t, rfl⟩ := rx
  obtain ⟨t', rfl⟩ := ry
  exact rule i j t t' s _ _ ⟨.int (g i j), H, I.tok _, ⟨_, rfl⟩, q⟩
theorem opB0 {f : Value → Value → Sem Value} {g : Int → Int → Bool}
    (rule : ∀ (i j : Int) (t u : Tok) (s : Shared) (Q : Value → Shared → Prop) (E : Value → Shared → Prop), Q (.bool (g i j)) s → wpAny (model X.prog X.w) X.A (f (.int i t) (.int j u)) Q E s) :
    OpR X f (rI0 fun i j => .bl (g i j)) := by
  intro pins s σ H x y v u Q I rx ry h
  obtain ⟨i, j, rfl, rfl, q⟩ := h
  obtain ⟨t, rfl⟩ := rx
  obtain ⟨t', rfl⟩ := ry
  exact rule i j t t' s _ _ ⟨.bl (g i j), H, I, rfl, q⟩

def CDiv (i j : Int) : Prop := 0 < j ∧ j < 1073741824
def CMul (i j : Int) : Prop := (-(2 ^ 64) < i ∧ i < 2 ^ 64) ∨ (-(2 ^ 64) < j ∧ j < 2 ^ 64)
theorem CMul.ok {i j : Int} (h : CMul i j) : IntMulOk i j := by
  rcases h with ⟨h1, h2⟩ | ⟨h1, h2⟩
  · exact .of_left (intBits_le_64 h1 h2)
  · exact .of_right (intBits_le_64 h1 h2)
theorem op_add : OpR X (binaryOp .Add) (rI0 fun i j => .int (i + j)) := opI0 fun _ _ _ _ _ _ _ q => add_int q
theorem op_sub : OpR X (binaryOp .Sub) (rI0 fun i j => .int (i - j)) := opI0 fun _ _ _ _ _ _ _ q => sub_int q
theorem op_mul : OpR X (binaryOp .Mult) (rI CMul fun i j => .int (i * j)) := opI fun _ _ _ _ _ _ _ hc q => mul_int q hc.ok
theorem op_fdiv : OpR X (binaryOp .FloorDiv) (rI CDiv fun i j => .int (i / j)) := opI fun i j _ _ _ _ _ hc q => by
  have h1 : (0 : Int) < j := hc.1
  have h2 : j < 1073741824 := hc.2
  exact floordiv_int (by omega) (by rw [Int.fdiv_eq_ediv_of_nonneg i (by omega)]; exact q) (.inl (PyProof.noPylong_small (by omega)))
theorem op_mod : OpR X (binaryOp .Mod) (rI (fun _ j => 0 < j) fun i j => .int (i % j)) := opI fun i j _ _ _ _ _ hc q => by
  have h1 : (0 : Int) < j := hc
  exact mod_int' (by omega) (by rw [Int.fmod_eq_emod_of_nonneg i (by omega)]; exact q)
theorem unI {f : Value → Sem Value} {g : Int → Int}
    (rule : ∀ (i : Int) (t : Tok) (s : Shared) (Q : Value → Shared → Prop) (E : Value → Shared → Prop), Q (.int (g i) s.toks) { s with toks := s.toks + 1 } → wpAny (model X.prog X.w) X.A (f (.int i t)) Q E s) :
    UnR X f (rU fun i => .int (g i)) := by
  intro pins s σ H x v Q I rx h
  obtain ⟨i, rfl, q⟩ := h
  obtain ⟨t, rfl⟩ := rx
  exact rule i t s _ _ ⟨.int (g i), H, I.tok _, ⟨_, rfl⟩, q⟩
theorem un_neg : UnR X (unaryOp .USub) (rU fun i => .int (-i)) := unI fun _ _ _ _ _ q => neg_int q
end

section
variable {X : Cx} {a b c : Expr} {ta tb tc : TE} {pos : Pos}
theorem fin_bl {pins : List (Addr × Obj)} {σ : St} {H : Hp} {s : Shared} {Q : VK} {k k' : Bool} (I : Inv X pins σ H s) (q : Q (.bl k) H) (e : k = k') : EP X pins σ Q (.bool k') s := by
  subst e
  exact ⟨.bl k, H, I, rfl, q⟩
theorem op_lt : OpR X (compareOp .Lt) (rI0 fun i j => .bl (decide (i < j))) := opB0 fun _ _ _ _ _ _ _ q => lt_int q
theorem op_le : OpR X (compareOp .LtE) (rI0 fun i j => .bl (decide (i ≤ j))) := opB0 fun _ _ _ _ _ _ _ q => le_int q
theorem op_gt : OpR X (compareOp .Gt) (rI0 fun i j => .bl (decide (j < i))) := opB0 fun _ _ _ _ _ _ _ q => gt_int q
theorem op_in_str : OpR X (compareOp .In) (fun x y H Q => ∃ i j, x = .str i ∧ y = .str j ∧ Q (.bl (!(Builtin.Str.occurrences j i 0 j.length 1).isEmpty)) H) := by
  intro pins s σ H x y v u Q I rx ry h
  obtain ⟨i, j, rfl, rfl, q⟩ := h
  obtain ⟨t, rfl⟩ := rx
  obtain ⟨t', rfl⟩ := ry
  exact in_str (fin_bl I q rfl)

theorem op_isN : OpR X (compareOp .Is) (fun x y H Q => y = .non ∧ Q (.bl (decide (x = .non))) H) := by
  intro pins s σ H x y v u Q I rx ry h
  obtain ⟨rfl, q⟩ := h
  cases ry
  refine is_none_gen (fin_bl I q ?_)
  cases x <;> first
    | (cases rx; rfl)
    | (obtain ⟨t, rfl⟩ := rx; rfl)
theorem op_notN : OpR X (compareOp .IsNot) (fun x y H Q => y = .non ∧ Q (.bl (!decide (x = .non))) H) := by
  intro pins s σ H x y v u Q I rx ry h
  obtain ⟨rfl, q⟩ := h
  cases ry
  refine isnot_none_gen (fin_bl I q ?_)
  cases x <;> first
    | (cases rx; rfl)
    | (obtain ⟨t, rfl⟩ := rx; rfl)

theorem OpR.or {f : Value → Value → Sem Value} {r r' : R2} (h : OpR X f r) (h' : OpR X f r') : OpR X f (fun x y H Q => r x y H Q ∨ r' x y H Q) := by
  intro pins s σ H x y v u Q I rx ry q
  rcases q with q | q
  · exact h pins s σ H x y v u Q I rx ry q
  · exact h' pins s σ H x y v u Q I rx ry q

theorem nomark (b : Expr) {op : CmpOp} (h : op ≠ .In := by decide) (h2 : op ≠ .NotIn := by decide) : behindInMarks op b = false := by
  have e1 : (op == CmpOp.In) = false := by cases op <;> first | rfl | exact absurd rfl h
  have e2 : (op == CmpOp.NotIn) = false := by cases op <;> first | rfl | exact absurd rfl h2
  cases b <;> simp [behindInMarks, e1, e2]
theorem pe_cmpR {op : CmpOp} {r : R2} (ho : OpR X (compareOp op) r) (ha : PE X a ta) (hb : PE X b tb) (hm : behindInMarks op b = false) : PE X (.Compare a [op] [b] pos) (tOp r ta tb) := by
  intro pins s σ H Q I h
  exact wpAny_Compare1 (binT ha hb I h fun v u s2 x y H2 I2 rx ry q => ho pins s2 σ H2 x y v u Q I2 rx ry q) hm
def tTest (t : TE) : TT := fun σ H Q => t σ H fun x H' => ∃ k, x = .bl k ∧ Q k H'
theorem pt_cmpR {op : CmpOp} {r : R2} (ho : OpR X (compareOp op) r) (ha : PE X a ta) (hb : PE X b tb) (hm : behindInMarks op b = false) : PT X (.Compare a [op] [b] pos) (tTest (tOp r ta tb)) := by
  intro pins s σ H Q I h
  refine wpAny_isTrue_Compare1 (thn (ha pins s σ H _ I h) fun v s1 ⟨x, H1, I1, r1, q1⟩ => thn (hb pins s1 σ H1 _ I1 q1) fun u s2 ⟨y, H2, I2, r2, q2⟩ =>
    thn (ho pins s2 σ H2 x y v u _ I2 r1 r2 q2) fun c s3 ⟨z, H3, I3, r3, k, e, q3⟩ => ?_) hm
  subst e
  cases r3
  exact wpAny_truthy_bool ⟨H3, I3, q3⟩
def tChain (r r' : R2) (ta tb tc : TE) : TE := fun σ H Q => ta σ H fun x H1 => tb σ H1 fun y H2 => r x y H2 fun z H3 => ∃ k, z = .bl k ∧
  (if k = true then tc σ H3 fun w' H4 => r' y w' H4 Q else Q (.bl false) H3)
theorem pe_chain {op op' : CmpOp} {r r' : R2} (ho : OpR X (compareOp op) r) (ho' : OpR X (compareOp op') r') (ha : PE X a ta) (hb : PE X b tb) (hc : PE X c tc)
    (hm : lastMarks [op, op'] [b, c] = false := by with_unfolding_all rfl) : PE X (.Compare a [op, op'] [b, c] pos) (tChain r r' ta tb tc) := by
  intro pins s σ H Q I h
  refine Compare_chain (thn (ha pins s σ H _ I h) fun v s1 ⟨x, H1, I1, r1, q1⟩ => chain_link (thn (hb pins s1 σ H1 _ I1 q1) fun u s2 ⟨y, H2, I2, r2, q2⟩ =>
    thn (ho pins s2 σ H2 x y v u _ I2 r1 r2 q2) fun d s3 ⟨z, H3, I3, r3, k, e, q3⟩ => ?_)) hm
  subst e
  cases r3
  refine wpAny_truthy_bool ?_
  cases k with
  | false => exact ite_ff ⟨.bl false, H3, I3, rfl, q3⟩
  | true => exact ite_tt (chain_last (thn (hc pins s3 σ H3 _ I3 q3) fun w' s4 ⟨z', H4, I4, r4, q4⟩ => ho' pins s4 σ H4 y z' u w' Q I4 r2 r4 q4))
theorem pt_chain {op op' : CmpOp} {r r' : R2} (ho : OpR X (compareOp op) r) (ho' : OpR X (compareOp op') r') (ha : PE X a ta) (hb : PE X b tb) (hc : PE X c tc)
    (hm : lastMarks [op, op'] [b, c] = false := by with_unfolding_all rfl) : PT X (.Compare a [op, op'] [b, c] pos) (tTest (tChain r r' ta tb tc)) := by
  intro pins s σ H Q I h
  refine isTrue_chain (thn (ha pins s σ H _ I h) fun v s1 ⟨x, H1, I1, r1, q1⟩ => test_link (thn (hb pins s1 σ H1 _ I1 q1) fun u s2 ⟨y, H2, I2, r2, q2⟩ =>
    thn (ho pins s2 σ H2 x y v u _ I2 r1 r2 q2) fun d s3 ⟨z, H3, I3, r3, k, e, q3⟩ => ?_)) hm
  subst e
  cases r3
  refine wpAny_truthy_bool ?_
  cases k with
  | false =>
    obtain ⟨k', e', q'⟩ := q3
    cases e'
    exact ite_ff ⟨H3, I3, q'⟩
  | true =>
    refine ite_tt (test_last (thn (hc pins s3 σ H3 _ I3 q3) fun w' s4 ⟨z', H4, I4, r4, q4⟩ => thn (ho' pins s4 σ H4 y z' u w' _ I4 r2 r4 q4) fun d' s5 ⟨z2, H5, I5, r5, k2, e2, q5⟩ => ?_))
    subst e2
    cases r5
    exact wpAny_truthy_bool ⟨H5, I5, q5⟩

def TruV (K : PySem.W.Frag) (x : V) (H : Hp) (k : Bool) : Prop :=
  match x with
  | .non => k = false
  | .bl b => k = b
  | .int i => k = (i != 0)
  | .str y => y.length ≤ sizeLine ∧ k = ((y.length : Int) != 0)
  | .byt y => y.size ≤ sizeLine ∧ k = ((y.size : Int) != 0)
  | .ref p => (∃ xs, SqL K H p xs ∧ k = !xs.isEmpty) ∨ (∃ xs, SqT K H p xs ∧ k = !xs.isEmpty) ∨ ∃ kvs, H p = some (.dK kvs) ∧ k = !kvs.isEmpty
  | _ => False
theorem isEmpty_kv {κ : Type} {kvs : List (κ × V)} {vs : List (κ × Value)} (r : KV kvs vs) : (!vs.isEmpty) = !kvs.isEmpty := by
  cases r <;> rfl
theorem isEmpty_of {xs : List V} {its : List Value} (r : Vals xs its) : (!its.toArray.isEmpty) = !xs.isEmpty := by
  cases r <;> simp
theorem line63 : (sizeLine : Nat) < 2 ^ 63 := by rw [sizeLine_eq]; decide
theorem tru_ok : TruR X (fun x H Q => ∃ k, TruV X.K x H k ∧ Q k H) := by
  intro pins s σ H x v Q I rx h
  obtain ⟨k, e, q⟩ := h
  have hl := line63
  have hs : sizeLine = 16777216 := sizeLine_eq
  cases x with
  | non =>
    cases rx
    have e' : k = false := e
    subst e'
    exact truthy_none ⟨H, I, q⟩
  | bl b =>
    cases rx
    have e' : k = b := e
    subst e'
    exact wpAny_truthy_bool ⟨H, I, q⟩
  | int i =>
    obtain ⟨t, rfl⟩ := rx
    have e' : k = (i != 0) := e
    subst e'
    exact PySem.P.truthy_int ⟨H, I, q⟩
  | str y =>
    obtain ⟨t, rfl⟩ := rx
    obtain ⟨hy, e'⟩ : y.length ≤ sizeLine ∧ k = ((y.length : Int) != 0) := e
    subst e'
    exact PySem.P.truthy_str (by omega) ⟨H, I.tok _, q⟩
  | byt y =>
    obtain ⟨t, rfl⟩ := rx
    obtain ⟨hy, e'⟩ : y.size ≤ sizeLine ∧ k = ((y.size : Int) != 0) := e
    subst e'
    exact PySem.W.truthy_bytes (by omega) ⟨H, I.tok _, q⟩
  | ref p =>
    cases rx
    have e' : (∃ xs, SqL X.K H p xs ∧ k = !xs.isEmpty) ∨ (∃ xs, SqT X.K H p xs ∧ k = !xs.isEmpty) ∨ ∃ kvs, H p = some (.dK kvs) ∧ k = !kvs.isEmpty := e
    rcases e' with ⟨xs, hx, e'⟩ | ⟨xs, hx, e'⟩ | ⟨kvs, hx, e'⟩
    · subst e'
      obtain ⟨its, r, pl, hz⟩ := I.list hx
      have hlen := r.length
      exact wpAny_truthy_list pl.isList (by simp only [List.size_toArray]; omega) ⟨H, I.tok _, by rw [isEmpty_of r]; exact q⟩
    · subst e'
      obtain ⟨its, r, pl, hz⟩ := I.tuple hx
      have hlen := r.length
      exact truthy_tuple pl (by simp only [List.size_toArray]; omega) ⟨H, I.tok _, by rw [isEmpty_of r]; exact q⟩
    · subst e'
      obtain ⟨hz, hS, vs, r, m⟩ : kvs.length ≤ sizeLine ∧ (p == sysModules) = false ∧ ∃ vs, KV kvs vs ∧ s.heap.DictOf (mixKind X.prog X.w) p vs := I.hok p _ hx
      have hlen : kvs.length = vs.length := Paired.length r
      exact wpAny_truthy_dict hS m (by omega) ⟨H, I.tok _, by rw [isEmpty_kv r]; exact q⟩
  | _ => exact (show False from e).elim
theorem pt_truth (ha : PE X a ta) (he : ∀ whole, isTrue a X.env whole = (do let v ← whole; standAt a.pos; holding [v] (truthy v))) :
    PT X a (fun σ H Q => ta σ H fun x H' => ∃ k, TruV X.K x H' k ∧ Q k H') := by
  intro pins s σ H Q I h
  exact isTrue_plain (thn (ha pins s σ H _ I h) fun v s1 ⟨x, H1, I1, r1, q1⟩ => tru_ok pins s1 σ H1 x v Q I1 r1 q1) (he _)

theorem vals1 {x : V} {us : List Value} (r : Vals [x] us) : ∃ u, us = [u] ∧ RelV x u := by
  cases r with
  | cons r1 r2 => cases r2; exact ⟨_, rfl, r1⟩
theorem vals2 {x y : V} {us : List Value} (r : Vals [x, y] us) : ∃ u w', us = [u, w'] ∧ RelV x u ∧ RelV y w' := by
  cases r with
  | cons r1 r2 =>
    cases r2 with
    | cons r3 r4 => cases r4; exact ⟨_, _, rfl, r1, r3⟩
theorem call_abs : CallR X (.builtin "abs") (fun xs H Q => ∃ i, xs = [.int i] ∧ Q (.int (if i < 0 then -i else i)) H) := by
  intro pins s σ H xs us Q I r h
  obtain ⟨i, rfl, q⟩ := h
  obtain ⟨u, rfl, t, rfl⟩ := vals1 r
  exact call_abs_int fun u tk => ⟨.int (if i < 0 then -i else i), H, I.tok _, ⟨_, rfl⟩, q⟩
theorem call_max2 (hc : X.calm = true) : CallR X (.builtin "max") (fun xs H Q => ∃ i j, xs = [.int i, .int j] ∧ Q (.int (if j > i then j else i)) H) := by
  intro pins s σ H xs us Q I r h
  obtain ⟨i, j, rfl, q⟩ := h
  obtain ⟨u, w', rfl, ⟨t, rfl⟩, ⟨t', rfl⟩⟩ := vals2 r
  refine max_two_ints (I.ok.hd hc) fun h' tk k => ⟨_, H, I.kept k, ?_, q⟩
  by_cases hj : j > i
  · rw [if_pos hj, if_pos hj]; exact ⟨_, rfl⟩
  · rw [if_neg hj, if_neg hj]; exact ⟨_, rfl⟩
theorem call_min2 (hc : X.calm = true) : CallR X (.builtin "min") (fun xs H Q => ∃ i j, xs = [.int i, .int j] ∧ Q (.int (if j < i then j else i)) H) := by
  intro pins s σ H xs us Q I r h
  obtain ⟨i, j, rfl, q⟩ := h
  obtain ⟨u, w', rfl, ⟨t, rfl⟩, ⟨t', rfl⟩⟩ := vals2 r
  refine min_two_ints (I.ok.hd hc) fun h' tk k => ⟨_, H, I.kept k, ?_, q⟩
  by_cases hj : j < i
  · rw [if_pos hj, if_pos hj]; exact ⟨_, rfl⟩
  · rw [if_neg hj, if_neg hj]; exact ⟨_, rfl⟩
end
end L2

namespace L2
open PySem PySem.Spec PyProof.Rows

structure ObjM (h : Heap) (x dx C : Addr) (mA : Str → Option Value) : Prop where
  obj : h.get? x = some (PySem.W.instObj C dx)
  ns : h.Ns1 dx mA
  ne : dx ≠ x

theorem lookIn_ns {h : Heap} {dx : Addr} {mA : Str → Option Value} (n : h.Ns1 dx mA) : ∃ od, h.get? dx = some od ∧ ∀ name, PySem.W.lookIn name od = some (mA name) := by
  obtain ⟨o, es, ep, ho, hd, hk, _, hm⟩ := n
  refine ⟨o, ho, fun name => ?_⟩
  have e := hm name
  unfold nsFind findBy at e
  rw [← Array.find?_toList] at e
  unfold PySem.W.lookIn
  rw [hd]
  dsimp only
  split
  · rename_i y q
    rw [q] at e
    exact congrArg some e
  · rename_i q
    rw [q] at e
    have a : es.toList.any (·.refKey) = false := by
      rw [List.any_eq_false]
      intro y hy
      obtain ⟨z, t, hkey⟩ := hk y (Array.mem_toList_iff.mp hy)
      simp [DictEntry.refKey, hkey]
    have a' : ¬ es.toList.any (·.refKey) = true := by rw [a]; exact Bool.false_ne_true
    rw [if_neg a']
    exact congrArg some e

theorem ObjM.look {h : Heap} {x dx C : Addr} {mA : Str → Option Value} (I : ObjM h x dx C mA) : ∃ od, PySem.W.InstAt h x (PySem.W.instObj C dx) C (some od) ∧ ∀ name, PySem.W.lookIn name od = some (mA name) :=
  let ⟨od, ho, hl⟩ := lookIn_ns I.ns
  ⟨od, ⟨I.obj, rfl, rfl, ho⟩, hl⟩

section
variable {prog : Program} {w : World} {A : Around} {E : Value → Shared → Prop} {s : Shared} {K : PySem.W.Frag} {x dx C f : Addr} {mA : Str → Option Value} {name : Str} {v : Value}

end

theorem RelO.some_of {v : V} {o : Option Value} (r : RelO (some v) o) : ∃ u, o = some u ∧ RelV v u := by
  cases o with
  | none => exact (show False from r).elim
  | some u => exact ⟨u, rfl, r⟩
section
variable {P : Program} {w : World} {H H' : Hp} {h h' : Heap} {a C dx : Addr} {fs fs' : List (Str × V)}
theorem ins_get (hok : HOk P w H h) (e : H a = some (.ins C dx fs)) : ∃ mA, ObjM h a dx C mA ∧ (∀ f, RelO (fs.lookup f) (mA f)) ∧ PySem.Within mA (fs.map (·.1)) ∧ fs.length ≤ 1000 ∧ H dx = some (.own a) := by
  obtain ⟨d, z, ne, ob, mA, n, r, q⟩ := (show ObjOk P w H h a (.ins C dx fs) from hok a _ e)
  exact ⟨mA, ⟨ob, n, ne⟩, r, q, z, d⟩
end

structure Cls (K : PySem.W.Frag) (C : Addr) : Prop where
  pg : PySem.W.plainGet K C Str.empty = true
  hd : PySem.W.hasDictIn K C = true
  po : PySem.W.plainOver K C = true
  sa : PySem.W.findIn K (.ref C) "__setattr__" = some (some (.builtin "object.__setattr__"))
theorem Cls.get {K : PySem.W.Frag} {C : Addr} (c : Cls K C) (f : Str) : PySem.W.plainGet K C f = true := c.pg
structure Con (K : PySem.W.Frag) (C : Addr) (f : Str) (v : V) (u : Value) : Prop where
  at_ : PySem.W.findIn K (.ref C) f = some (some u)
  rel : RelV v u
  get : PySem.W.specialIn K u "__get__" = some none
  cp : PySem.W.copiedNames.contains f = false
structure Meth (K : PySem.W.Frag) (C : Addr) (m : Str) (f : Addr) : Prop where
  at_ : PySem.W.findIn K (.ref C) m = some (some (.ref f))
  fn : PySem.W.isFn K (.ref f) = true
  kp : PySem.W.keepIn K (.ref f) = true

section
variable {X : Cx} {pins : List (Addr × Obj)} {σ : St} {H : Hp} {s : Shared} {a C dx : Addr} {fs : List (Str × V)} {f : Str} {v : V} {A : Around} {E : Value → Shared → Prop}

end

section
variable {X : Cx} {o e value : Expr} {f : Str} {pos pos' tpos : Pos} {ta tv : TE}
end

section
variable {X : Cx} {pins : List (Addr × Obj)} {σ : St} {H : Hp} {s : Shared} {A : Around} {E : Value → Shared → Prop} {Q : Value → Shared → Prop} {c : Value} {b : Bool}
inductive TyOf (K : PySem.W.Frag) (H : Hp) : V → Value → Prop where
  | non : TyOf K H .non (.type "NoneType")
  | bl (x : Bool) : TyOf K H (.bl x) (.type "bool")
  | int (i : Int) : TyOf K H (.int i) (.type "int")
  | str (x : Str) : TyOf K H (.str x) (.type "str")
  | flt (x : UInt64) : TyOf K H (.flt x) (.type "float")
  | lst {a : Addr} {xs : List V} (e : H a = some (.lst xs)) : TyOf K H (.ref a) (.type "list")
  | frz {a : Addr} {o : Obj} {xs : List V} (e : H a = some (.frz o (.lst xs))) : TyOf K H (.ref a) (.type "list")
  | tup {a : Addr} {xs : List V} (e : H a = some (.tup xs)) : TyOf K H (.ref a) (.type "tuple")
  | dK {a : Addr} {kvs : List (Key × V)} (e : H a = some (.dK kvs)) : TyOf K H (.ref a) (.type "dict")
  | dT {a : Addr} {kvs : List (List Key × V)} (e : H a = some (.dT kvs)) : TyOf K H (.ref a) (.type "dict")
  | ins {a C dx : Addr} {fs : List (Str × V)} (e : H a = some (.ins C dx fs)) (cl : Cls K C) (ha : PySem.W.findIn K (.ref C) "__class__" = some (some (.builtin "object.__class__")))
      (hn : PySem.W.specialIn K (.builtin "object.__class__") "__get__" = some (some (.builtin "getset_descriptor.__get__"))) (htk : PySem.W.takesIn K (.builtin "object.__class__") = some true)
      (hm : PySem.W.mroIn K C (.type "object") = some true) : TyOf K H (.ref a) (.ref C)
theorem isinst_ok {x : V} {u t : Value} (I : Inv X pins σ H s) (rx : RelV x u) (ty : TyOf X.K H x t) (e : PySem.W.kitOne X.K t c = some b) (h : ∀ tk, Q (.bool b) { s with toks := tk }) :
    wpAny (model X.prog X.w) A (call (.builtin "isinstance") [u, c]) Q E s := by
  cases ty with
  | non => cases (show u = Value.none from rx); exact PySem.W.kia_one PySem.W.kitx_none I.kIn True.intro e (fun z => nomatch z) h
  | bl y => cases (show u = Value.bool y from rx); exact PySem.W.kia_one PySem.W.kitx_bool I.kIn True.intro e (fun z => nomatch z) h
  | int i => obtain ⟨t, q⟩ := (show ∃ t, u = Value.int i t from rx); cases q; exact PySem.W.kia_one PySem.W.kitx_int I.kIn True.intro e (fun z => nomatch z) h
  | str y => obtain ⟨t, q⟩ := (show ∃ t, u = Value.str y t from rx); cases q; exact PySem.W.kia_one PySem.W.kitx_str I.kIn True.intro e (fun z => nomatch z) h
  | flt y => obtain ⟨t, q⟩ := (show ∃ t, u = Value.float y t from rx); cases q; exact PySem.W.kia_one PySem.W.kitx_float I.kIn True.intro e (fun z => nomatch z) h
  | @lst a xs ea =>
    cases (show u = Value.ref a from rx)
    obtain ⟨_, _, n, _, h1⟩ := (show ObjOk X.prog X.w H s.heap a (.lst xs) from I.hok a _ ea)
    exact PySem.W.kia_one PySem.W.kitx_list I.kIn ⟨_, h1, rfl⟩ e (fun z => nomatch z) h
  | @frz a ob xs ea =>
    cases (show u = Value.ref a from rx)
    obtain ⟨_, _, _, n, _, h1⟩ := (show ObjOk X.prog X.w H s.heap a (.frz ob (.lst xs)) from I.hok a _ ea)
    exact PySem.W.kia_one PySem.W.kitx_list I.kIn ⟨_, h1, rfl⟩ e (fun z => nomatch z) h
  | @tup a xs ea =>
    cases (show u = Value.ref a from rx)
    obtain ⟨_, _, _, p⟩ := (show ObjOk X.prog X.w H s.heap a (.tup xs) from I.hok a _ ea)
    obtain ⟨o, h1, h2, _⟩ := p
    exact PySem.W.kia_one PySem.W.kitx_tuple I.kIn ⟨o, h1, h2⟩ e (fun z => nomatch z) h
  | @dK a kvs ea =>
    cases (show u = Value.ref a from rx)
    obtain ⟨_, _, vs, _, p⟩ := (show ObjOk X.prog X.w H s.heap a (.dK kvs) from I.hok a _ ea)
    obtain ⟨o, es, ep, h1, h2, _⟩ := p
    exact PySem.W.kia_one PySem.W.kitx_dict I.kIn ⟨o, h1, h2.1⟩ e (fun z => nomatch z) h
  | @dT a kvs ea =>
    cases (show u = Value.ref a from rx)
    obtain ⟨_, _, xs, _, o, es, ep, h1, h2, _⟩ := (show ObjOk X.prog X.w H s.heap a (.dT kvs) from I.hok a _ ea)
    exact PySem.W.kia_one PySem.W.kitx_dict I.kIn ⟨o, h1, h2.1⟩ e (fun z => nomatch z) h
  | @ins a C dx fs ea cl ha hn htk hm =>
    cases (show u = Value.ref a from rx)
    obtain ⟨mA, O, _⟩ := ins_get I.hok ea
    obtain ⟨od, J, _⟩ := O.look
    exact PySem.W.kia_one (PySem.W.kitx_own (cl.get _) cl.hd ha hn htk hm) I.kIn J e (fun z => nomatch z) h
end
end L2

namespace L2
open PySem PySem.Spec PyProof.Rows

structure Room (k : Nat) (A : Around) : Prop where
  hd : A.handled = none
  dp : A.depth + 3 * k + 5 < recursionLimit
  un : A.units + 16 * k + 200 < cLine
theorem Room.mono {j k : Nat} {A : Around} (r : Room k A) (h : j ≤ k) : Room j A := ⟨r.hd, by have := r.dp; omega, by have := r.un; omega⟩
theorem Room.deeper {k : Nat} {A : Around} (r : Room (k + 1) A) (env : Env) : Room k (A.deeper env) :=
  ⟨r.hd, by have := r.dp; show A.depth + 1 + 3 * k + 5 < _; omega, by have := r.un; show A.units + 3 + 16 * k + 200 < _; omega⟩
theorem Room.depth {k : Nat} {A : Around} (r : Room k A) : A.depth < recursionLimit := by have := r.dp; omega
theorem Room.units {k : Nat} {A : Around} (r : Room k A) : A.units + 64 < cLine := by have := r.un; omega
def tNil : TA := fun _ H Q => Q [] H
def tCons (ta : TE) (tr : TA) : TA := fun σ H Q => ta σ H fun x H1 => tr σ H1 fun xs H2 => Q (x :: xs) H2
section
variable {X : Cx} {e : Expr} {es : List Expr} {te : TE} {t : TA} {pos : Pos}
theorem pa_nil : PA X [] tNil := fun _ _ _ _ H Q I h => Calls.spliced_nil ⟨[], H, I, .nil, h⟩
theorem pa_cons (ha : PE X e te) (hr : PA X es t) (hs : starEach (e :: es) X.env = (false, eval e X.env) :: starEach es X.env := by rfl) : PA X (e :: es) (tCons te t) := by
  intro pos pins s σ H Q I h
  rw [hs]
  show wpAny _ _ (spliced ((false, eval e X.env) :: backTo pos (starEach es X.env))) _ _ s
  refine Calls.spliced_cons (thn (ha pins s σ H _ I h) fun u s1 ⟨x, H1, I1, r1, q1⟩ => ?_)
  exact thn (hr pos pins s1 σ H1 _ I1 q1) fun us s2 ⟨xs, H2, I2, r2, q2⟩ => ⟨x :: xs, H2, I2, .cons r1 r2, q2⟩

def tTup (t : TA) : TE := fun σ H Q => t σ H fun xs H1 => xs.length ≤ sizeLine ∧ ∀ p, H1 p = none → Q (.ref p) (upd H1 p (.tup xs))
def tLst (t : TA) : TE := fun σ H Q => t σ H fun xs H1 => xs.length ≤ sizeLine ∧ ∀ p, H1 p = none → Q (.ref p) (upd H1 p (.lst xs))
theorem pe_tup {x1} (h : PA X es t) : PE X (.Tuple es x1 pos) (tTup t) := by
  intro pins s σ H Q I hq
  refine wpAny_Tuple_spliced (thn (h pos pins s σ H _ I hq) fun us s1 ⟨xs, H1, I1, r, z, q⟩ => ⟨by rw [← r.length]; exact z, ?_⟩)
  have hf : H1 s1.heap.objs.size = none := I1.hok.fresh (Nat.le_refl _)
  refine ⟨.ref s1.heap.objs.size, upd H1 s1.heap.objs.size (.tup xs), I1.laid (t' := s1.toks) (fun b u e => Heap.get?_push_of_some _ e) (Nat.le_refl _) ?_, rfl, q _ hf⟩
  exact ⟨z, us, r, ⟨_, Heap.get?_push_size _ rfl, rfl, _, rfl⟩⟩
theorem pe_lst (h : PA X es t) : PE X (.List es pos) (tLst t) := by
  intro pins s σ H Q I hq
  refine wpAny_List_spliced (thn (h pos pins s σ H _ I hq) fun us s1 ⟨xs, H1, I1, r, z, q⟩ => ⟨by rw [← r.length]; exact z, ?_⟩)
  have hf : H1 s1.heap.objs.size = none := I1.hok.fresh (Nat.le_refl _)
  refine ⟨.ref s1.heap.objs.size, upd H1 s1.heap.objs.size (.lst xs), I1.laid (t' := s1.toks) (fun b u e => Heap.get?_push_of_some _ e) (Nat.le_refl _) ?_, rfl, q _ hf⟩
  exact ⟨z, us, 0, r, Heap.get?_push_size _ rfl⟩
end

abbrev Sp := List V → Hp → VK → XK → Prop
abbrev CXT := List Env → Hp → Shared → XK → Value → Shared → Prop

structure Env0 (P : Program) (w : World) (K : PySem.W.Frag) (mg : Str → Option Value) (base : Heap) (A : Around) (outer : List Env) (s : Shared) (H : Hp) : Prop where
  frames : A.frames = some outer
  mod : Mod K mg base
  bs : ∀ b o, base.get? b = some o → s.heap.get? b = some o ∧ H b = none
  bsz : base.objs.size ≤ s.heap.objs.size
  funs : s.heap.FunFrames base outer
  frf : ∀ b ∈ frs outer, H b = none
  hok : HOk P w H s.heap
  bare : AllBare s.gens
def CE (outer : List Env) (P : Program) (w : World) (H : Hp) (s : Shared) (Q : VK) (u : Value) (s' : Shared) : Prop :=
  ∃ v H', s'.os = s.os ∧ AllBare s'.gens ∧ Un (frs outer) [] H H' s.heap s'.heap ∧ HOk P w H' s'.heap ∧ RelV v u ∧ Q v H'
def CR (CX : CXT) (outer : List Env) (P : Program) (w : World) (H : Hp) (s : Shared) (Q : VK) (E : XK) (r : Result) (s' : Shared) : Prop :=
  match r with
  | .ok (.ret u) => CE outer P w H s Q u s'
  | .ok _ => False
  | .error e => CX outer H s E e s'
structure FnOk (P : Program) (w : World) (K : PySem.W.Frag) (mg : Str → Option Value) (base : Heap) (CX : CXT) (k : Nat) (f : Addr) (fd : FuncData) (ps : List Str) (sp : Sp) : Prop where
  len : ∀ vs H Q E, sp vs H Q E → vs.length = ps.length
  run : ∀ (A : Around) (outer : List Env) (s : Shared) (H : Hp) (args : Args) (us : List Value) (vs : List V) (Q : VK) (E : XK), Room k A → Env0 P w K mg base A outer s H → BindsTo s fd args (ps.zip us) → Vals vs us → sp vs H Q E →
    codeAny (model P w) A (.call (.ref f) args) (CR CX outer P w H s Q E) s
section
variable {X : Cx} {pins : List (Addr × Obj)} {σ : St} {H : Hp} {s s' : Shared}
theorem Inv.env0 (I : Inv X pins σ H s) : Env0 X.prog X.w X.K X.mg X.base X.A X.stack s H :=
  ⟨I.ok.frames, I.ok.mod, I.bs, Nat.le_trans I.ok.bsz I.sz, I.stack, I.stkFree, I.hok, I.bare⟩
theorem Inv.after {Q : VK} {u : Value} (I : Inv X pins σ H s) (h : CE X.stack X.prog X.w H s Q u s') : EP X pins σ Q u s' := by
  obtain ⟨v, H', os, bare, un, hok, r, q⟩ := h
  obtain ⟨hh, g, d, t, os'⟩ := s'
  obtain rfl : os' = s.os := os
  exact ⟨v, H', I.call (h' := hh) (g' := g) (d' := d) (t' := t) (ch := []) un hok bare (fun b z => absurd z (by simp)), r, q⟩
end

def tCall (sp : Sp) (dvs : List V) (E : XK) (t : TA) : TE := fun σ H Q => t σ H fun vs H1 => sp (vs ++ dvs) H1 Q E
def Binds (K : PySem.W.Frag) (fd : FuncData) (ps : List Str) (ds : List Value) : Prop :=
  ∀ (s : Shared) (us : List Value), K.In s.heap → (us ++ ds).length = ps.length → BindsTo s fd ⟨us, []⟩ (ps.zip (us ++ ds))
theorem Binds.all {K : PySem.W.Frag} {fd : FuncData} {ps : List Str} (h : ∀ us : List Value, us.length = ps.length → bindArgs fd ⟨us, []⟩ = pure (ps.zip us)) : Binds K fd ps [] := fun s us _ hl => by
  rw [List.append_nil] at hl ⊢
  exact .of_eq (h us hl)

def Passes (CX : CXT) (X : Cx) (E : XK) : Prop := ∀ (pins : List (Addr × Obj)) (σ : St) (H : Hp) (s : Shared) (e : Value) (s' : Shared), Inv X pins σ H s → CX X.stack H s E e s' → X.xe e s'

section
variable {X : Cx} {CX : CXT} {k : Nat} {f C : Addr} {fd : FuncData} {ps : List Str} {sp : Sp} {dvs : List V} {ds : List Value} {E : XK} {x m : Str} {p pos apos : Pos} {e o : Expr} {es : List Expr} {ta : TE} {t : TA}

theorem run_fn {pins : List (Addr × Obj)} {σ : St} {H : Hp} {s : Shared} {Q : VK} {us : List Value} {vs : List V} (F : FnOk X.prog X.w X.K X.mg X.base CX k f fd ps sp) (hr : Room k X.A) (hb : Binds X.K fd ps ds) (hd : Vals dvs ds) (hx : Passes CX X E)
    (I : Inv X pins σ H s) (r : Vals vs us) (h : sp (vs ++ dvs) H Q E) : wpAny (model X.prog X.w) X.A (call (.ref f) us) (EP X pins σ Q) X.xe s := by
  have r2 : Vals (vs ++ dvs) (us ++ ds) := r.append hd
  have hl : (us ++ ds).length = ps.length := by rw [← r2.length]; exact F.len _ _ _ _ h
  refine wpAny_call (codeAny_mono (F.run X.A X.stack s H ⟨us, []⟩ (us ++ ds) (vs ++ dvs) Q E hr I.env0 (hb s us I.kIn hl) r2 h) fun r s' hq => ?_)
  cases r with
  | error e => exact hx pins σ H s e s' I hq
  | ok fl =>
    cases fl with
    | ret u => exact I.after hq
    | next => exact False.elim hq
    | brk => exact False.elim hq
    | cont => exact False.elim hq

theorem pe_call (F : FnOk X.prog X.w X.K X.mg X.base CX k f fd ps sp) (hr : Room k X.A) (hg : Gl X x) (hm : X.mg x = some (.ref f)) (hk : PySem.W.keepIn X.K (.ref f) = true) (hb : Binds X.K fd ps ds) (hd : Vals dvs ds) (hx : Passes CX X E)
    (ha : PA X (e :: es) t) (hdb : (x == ("__debug__" : Str)) = false := by decide) (he : starEach (e :: es) X.env = (false, eval e X.env) :: starEach es X.env := by rfl) (hpl : (backTo pos (starEach es X.env)).any (·.1) = false := by rfl) :
    PE X (.Call (.Name x p) (e :: es) [] pos) (tCall sp dvs E t) := by
  intro pins s σ H Q I h
  refine wpAny_Call_Name_kw (ld_glob I hg hm ?_ hdb)
  refine PySem.W.callWith_K (h₀ := X.base) I.ok.mod.kin hk (thn (ha pos pins s σ H _ I h) fun us s1 ⟨vs, H1, I1, r, q⟩ => ⟨I1.kIn, ?_⟩) he hpl
  exact run_fn F hr hb hd hx I1 r q
structure Mk (K : PySem.W.Frag) (C f : Addr) : Prop where
  makes : PySem.W.makesIn K C = true
  init : PySem.W.findIn K (.ref C) "__init__" = some (some (.ref f))
  fn : PySem.W.isFn K (.ref f) = true
  kp : PySem.W.keepIn K (.ref C) = true

end

section
variable {X : Cx} {CX : CXT} {k : Nat} {f C : Addr} {fd : FuncData} {ps ks : List Str} {sp : Sp} {E : XK} {x m : Str} {p pos apos kpos : Pos} {e o : Expr} {es : List Expr} {kws : List Keyword} {te ta : TE} {t tk : TA} {nm : Option Str}
structure KBinds (K : PySem.W.Frag) (fd : FuncData) (ps ks : List Str) (g : List Value → List Value → List Value) (gV : List V → List V → List V) : Prop where
  to : ∀ (s : Shared) (us ws : List Value), K.In s.heap → (g us ws).length = ps.length → BindsTo s fd ⟨us, ks.zip ws⟩ (ps.zip (g us ws))
  rel : ∀ {vs : List V} {us : List Value} {zs : List V} {ws : List Value}, Vals vs us → Vals zs ws → Vals (gV vs zs) (g us ws)
variable {g : List Value → List Value → List Value} {gV : List V → List V → List V}
end

structure FnScope (N P : List Str) (sc : Scope) : Prop where
  kind : sc.kind = .function
  co : sc.isCoroutine = false
  gen : sc.isGenerator = false
  nd : N.Nodup
  pre : N.take P.length = P
  par : ∀ x ∈ P, sc.names.lookup x = some .local ∨ sc.names.lookup x = some .cell
  nofree : ∀ y ∈ sc.names, y.2 ≠ .free

theorem bindL_out {kindOf : Str → Option NameKind} {x : Str} : ∀ {binds : List (Str × Value)} {m : Str → Option Value}, (∀ v, (x, v) ∉ binds) → bindL kindOf binds m x = m x
  | [], _, _ => rfl
  | (n, v) :: r, m, h => by
    unfold bindL
    rw [bindL_out fun w hw => h w (List.mem_cons_of_mem _ hw)]
    split
    · have : x ≠ n := by rintro rfl; exact h v List.mem_cons_self
      simp [this]
    · rfl
theorem bindC_out {kindOf : Str → Option NameKind} {x : Str} : ∀ {binds : List (Str × Value)} {m : Str → Option Value}, (∀ v, (x, v) ∉ binds) → bindC kindOf binds m x = m x
  | [], _, _ => rfl
  | (n, v) :: r, m, h => by
    unfold bindC
    rw [bindC_out fun w hw => h w (List.mem_cons_of_mem _ hw)]
    split
    · rfl
    · have : x ≠ n := by rintro rfl; exact h v List.mem_cons_self
      simp [this]
theorem bindL_get {kindOf : Str → Option NameKind} {x : Str} {v : Value} : ∀ {P : List Str} {vs : List Value} {i : Nat} {m : Str → Option Value}, P.Nodup → P[i]? = some x → vs[i]? = some v → kindOf x = some .local →
    bindL kindOf (P.zip vs) m x = some v
  | [], _, _, _, _, h, _, _ => by simp at h
  | _ :: _, [], _, _, _, _, h, _ => by simp at h
  | p :: P, w :: vs, 0, m, nd, h1, h2, hk => by
    simp at h1 h2; subst h1; subst h2
    show bindL kindOf ((p, w) :: P.zip vs) m p = _
    unfold bindL
    rw [bindL_out fun v hv => (List.nodup_cons.mp nd).1 (List.of_mem_zip hv).1, if_pos hk]
    simp
  | p :: P, w :: vs, i + 1, m, nd, h1, h2, hk => by
    show bindL kindOf ((p, w) :: P.zip vs) m x = _
    unfold bindL
    exact bindL_get (i := i) (List.nodup_cons.mp nd).2 (by simpa using h1) (by simpa using h2) hk
theorem bindC_get {kindOf : Str → Option NameKind} {x : Str} {v : Value} : ∀ {P : List Str} {vs : List Value} {i : Nat} {m : Str → Option Value}, P.Nodup → P[i]? = some x → vs[i]? = some v → kindOf x ≠ some .local →
    bindC kindOf (P.zip vs) m x = some v
  | [], _, _, _, _, h, _, _ => by simp at h
  | _ :: _, [], _, _, _, _, h, _ => by simp at h
  | p :: P, w :: vs, 0, m, nd, h1, h2, hk => by
    simp at h1 h2; subst h1; subst h2
    show bindC kindOf ((p, w) :: P.zip vs) m p = _
    unfold bindC
    rw [bindC_out fun v hv => (List.nodup_cons.mp nd).1 (List.of_mem_zip hv).1, if_neg hk]
    simp
  | p :: P, w :: vs, i + 1, m, nd, h1, h2, hk => by
    show bindC kindOf ((p, w) :: P.zip vs) m x = _
    unfold bindC
    exact bindC_get (i := i) (List.nodup_cons.mp nd).2 (by simpa using h1) (by simpa using h2) hk

def start (N : List Str) (vs : List V) : St := vs.map some ++ List.replicate (N.length - vs.length) none

def cxOf (CX : CXT) (P : Program) (w : World) (K : PySem.W.Frag) (mg : Str → Option Value) (base : Heap) (N : List Str) (qual : Str) (scope : Scope) (f : Addr) (cd : Value) (A : Around) (outer : List Env) (s : Shared) (H : Hp) (E : XK) : Cx where
  prog := P
  w := w
  K := K
  mg := mg
  base := base
  A := A.deeper (envOfC qual scope s.heap.objs.size f cd)
  N := N
  s₀ := s
  H₀ := H
  env := envOfC qual scope s.heap.objs.size f cd
  outer := outer
  stack := envOfC qual scope s.heap.objs.size f cd :: outer
  ex := []
  calm := true
  fn := fun _ => true
  pn := []
  xe := fun e s' => wpAny (model P w) (A.deeper (envOfC qual scope s.heap.objs.size f cd)) (leaving (envOfC qual scope s.heap.objs.size f cd) e) (fun _ s'' => CX outer H s E e s'') (fun e' s'' => CX outer H s E e' s'') s'

theorem cell_has {sc : Scope} {n : Nat} {x : Str} (h : sc.names.lookup x = some .cell) : ∃ c, (cellsFrom n sc.names []).lookup x = some c := by
  have q := PySem.W.cellsFrom_some sc.names n [] (.inl h)
  exact Option.isSome_iff_exists.mp q

theorem inv_start {CX : CXT} {P : Program} {w : World} {K : PySem.W.Frag} {mg : Str → Option Value} {base : Heap} {N ps : List Str} {qual : Str} {scope : Scope} {f : Addr} {cd : Value} {A : Around} {outer : List Env} {s s1 : Shared} {H : Hp} {E : XK} {us : List Value} {vs : List V}
    (S : FnScope N ps scope) (hd : A.handled = none) (e0 : Env0 P w K mg base A outer s H) (hl : vs.length = ps.length) (r : Vals vs us)
    (x : InCallC s s.heap.objs.size (bindL (envOfC qual scope s.heap.objs.size f cd).kindOf (ps.zip us) fun _ => none) (cellsFrom (s.heap.objs.size + 1) scope.names []) (bindC (envOfC qual scope s.heap.objs.size f cd).kindOf (ps.zip us) fun _ => none) s1) :
    Inv (cxOf CX P w K mg base N qual scope f cd A outer s H E) [] (start N vs) H s1 := by
  have hpl : ps.length ≤ N.length := by have := congrArg List.length S.pre; rw [List.length_take] at this; omega
  obtain ⟨h1, tk, rfl, hk⟩ := x.done
  have noA : ∀ b : Addr, b ∉ (cxOf CX P w K mg base N qual scope f cd A outer s H E).ex := fun b z => absurd (show b ∈ ([] : List Addr) from z) (by simp)
  refine ⟨⟨e0.mod, S.kind, rfl, rfl, Nat.le_refl _, fun y z c h1 h2 => ?_, fun y hy => ?_, fun y c _ h => ?_, fun _ => hd, Around.frames_deeper e0.frames, .inr ⟨rfl, rfl⟩, fun b z => absurd z (noA b), e0.bs, e0.bsz, fun b _ _ => noA b, fun b z => absurd z (noA b), e0.funs, e0.frf⟩,
    rfl, e0.bare, Un.kept hk, ⟨_, x.toInCall.ns, fun i y v h1 h2 h3 => ?_⟩, fun y c h => ⟨_, x.cell y c h⟩, e0.hok.fresh (Nat.le_refl _), fun y c h => ?_, fun p hp => absurd (show p ∈ ([] : List (Addr × Obj)) from hp) (by simp), e0.hok.kept hk, ?_⟩
  · exact name_of_addr x.apart (PySem.mem_of_lookup h1) (PySem.mem_of_lookup h2)
  · have hy : scope.names.lookup y = some .cell ∨ scope.names.lookup y = some .free := hy
    rcases hy with hy | hy
    · exact cell_has hy
    · exact absurd rfl (S.nofree _ (PySem.mem_of_lookup hy))
  · exact Nat.le_of_lt (x.above y c (PySem.mem_of_lookup h))
  · have hi : i < vs.length := by
      unfold start at h2
      by_cases hi : i < vs.length
      · exact hi
      · rw [List.getElem?_append_right (by simpa using hi)] at h2
        rw [List.getElem?_replicate] at h2
        split at h2 <;> cases h2
    have ha : vs[i]? = some v := by
      unfold start at h2
      rw [List.getElem?_append_left (by simpa using hi), List.getElem?_map] at h2
      cases e : vs[i]? with
      | none => rw [e] at h2; cases h2
      | some a => rw [e] at h2; cases h2; rfl
    obtain ⟨u, hu, rv⟩ := r.get ha
    have hp : ps[i]? = some y := by
      rw [← S.pre, List.getElem?_take_of_lt (by omega)]; exact h1
    have ndP : ps.Nodup := by rw [← S.pre]; exact S.nd.sublist (List.take_sublist _ _)
    refine ⟨u, rv, ?_⟩
    rcases S.par y (List.mem_of_getElem? hp) with k | k
    · exact .inl ⟨k, bindL_get ndP hp hu k⟩
    · obtain ⟨c, e⟩ := cell_has (n := s.heap.objs.size + 1) k
      refine .inr ⟨.inl k, c, e, ?_⟩
      have q := x.cell y c e
      rw [bindC_get ndP hp hu (by show scope.names.lookup y ≠ _; rw [k]; decide)] at q
      exact q
  · exact e0.hok.fresh (Nat.le_of_lt (x.above y c (PySem.mem_of_lookup h)))
  · unfold start
    show _ = N.length
    rw [List.length_append, List.length_map, List.length_replicate]
    omega

theorem fn_of {CX : CXT} {P : Program} {w : World} {K : PySem.W.Frag} {mg : Str → Option Value} {base : Heap} {k : Nat} {f : Addr} {name qual : Str} {params : Arguments} {body : List Stmt} {scope : Scope} {dV kV doc pm cdv ct oc : Value} {an od : Option Addr}
    {osl : Array (Option Value)} {N ps : List Str} {sp : Sp} (lk : K.lookup f = some ⟨oc, od, .func (PySem.W.fnOf name qual params body scope dV kV doc pm an cdv ct), osl⟩) (hcd : PySem.W.codeIn K cdv qual = true) (S : FnScope N ps scope)
    (len : ∀ vs H Q E, sp vs H Q E → vs.length = ps.length)
    (hbody : ∀ (A : Around) (outer : List Env) (s : Shared) (H : Hp) (vs : List V) (Q : VK) (E : XK), Room k (A.deeper (envOfC qual scope s.heap.objs.size f cdv)) → sp vs H Q E →
      ∃ t, PSs (cxOf CX P w K mg base N qual scope f cdv A outer s H E) body t ∧ t { nx := fun _ H' => Q .non H', rt := Q } (start N vs) H) :
    FnOk P w K mg base CX (k + 1) f (PySem.W.fnOf name qual params body scope dV kV doc pm an cdv ct) ps sp := by
  refine ⟨len, fun A outer s H args us vs Q E hr e0 hb r hsp => ?_⟩
  have hl := len _ _ _ _ hsp
  have KX : K.In s.heap := e0.mod.kin.keeps fun b o e => (e0.bs b o e).1
  have lim : s.heap.NoLimit := e0.mod.nolimit.keeps fun b o e => (e0.bs b o e).1
  have hkind : ∀ y ∈ ps.zip us, scope.names.lookup y.1 = some .local ∨ (scope.names.lookup y.1 = some .cell ∧ ((cellsFrom (s.heap.objs.size + 1) scope.names []).lookup y.1).isSome = true) := fun ⟨n, v⟩ hy => by
    rcases S.par n (List.of_mem_zip hy).1 with q | q
    · exact .inl q
    · exact .inr ⟨q, PySem.W.cellsFrom_some _ _ _ (.inl q)⟩
  refine codeAny_call_function hr.depth (KX _ _ lk) rfl S.co S.gen rfl (PySem.W.codeRec_of KX hcd) (hb _ _ _ _ ?_)
  refine wpAny_newFunctionEnv_cells S.kind hkind fun env he s1 x => ?_
  subst he
  refine ⟨lim.keeps x.toInCall.keep, codeAny_func ?_⟩
  obtain ⟨t, ht, hq⟩ := hbody A outer s H vs Q E (hr.deeper _) hsp
  have I : Inv (cxOf CX P w K mg base N qual scope f cdv A outer s H E) [] (start N vs) H s1 := inv_start S hr.hd e0 hl r x
  refine wpAny_mono (ht [] s1 (start N vs) H _ I hq) (fun fl s' hs => ?_) fun e s' hs => hs
  have fin : ∀ {σ' : St} {H' : Hp} {v : V} {u : Value}, Inv (cxOf CX P w K mg base N qual scope f cdv A outer s H E) [] σ' H' s' → RelV v u → Q v H' → CE outer P w H s Q u s' :=
    fun {σ' H' v u} J rv q => ⟨v, H', J.os, J.bare, J.base, J.hok, rv, q⟩
  cases fl with
  | ret u =>
    obtain ⟨v, σ', H', J, rv, q⟩ := hs
    exact fin J rv q
  | next =>
    obtain ⟨σ', H', J, q⟩ := hs
    exact fin (v := V.non) (u := Value.none) J rfl q
  | brk =>
    obtain ⟨_, _, _, q⟩ := hs
    exact False.elim q
  | cont =>
    obtain ⟨_, _, _, q⟩ := hs
    exact False.elim q
end L2

namespace L2
open PySem PySem.Spec PyProof.Rows
section
variable {X : Cx} {x : Str} {p pos : Pos} {e : Expr} {es : List Expr} {t : TA} {id T : String} {r : List V → Hp → VK → Prop}

def tCB (r : List V → Hp → VK → Prop) (t : TA) : TE := fun σ H Q => t σ H fun vs H1 => r vs H1 Q
theorem pe_callB (hc : CallR X (.builtin id) r) (hg : Gl X x) (hm : X.mg x = none) (hv : bootBuiltins x = some (.builtin id)) (ha : PA X (e :: es) t) (hn : x ≠ "__name__" := by decide) (hdb : (x == ("__debug__" : Str)) = false := by decide)
    (he : starEach (e :: es) X.env = (false, eval e X.env) :: starEach es X.env := by rfl) (hpl : (backTo pos (starEach es X.env)).any (·.1) = false := by rfl) : PE X (.Call (.Name x p) (e :: es) [] pos) (tCB r t) := by
  intro pins s σ H Q I h
  refine wpAny_Call_Name_kw (ld_blt I hg hm hv ?_ hn hdb)
  exact PyProof.Rows.callWith_builtin1 (thn (ha pos pins s σ H _ I h) fun us s1 ⟨vs, H1, I1, r1, q1⟩ => hc pins s1 σ H1 vs us Q I1 r1 q1) he hpl
end
end L2

namespace HT
open PySem PyProof.Rows

section
open PySem.SeqAt
open PySem.AutoSeq1 (wpAny_loadPart')
open PySem.MeetsSeq PySem.MeetsSeq2 PySem.MeetsSeq3

end

section
variable {prog : Program} {w : World} {A : Around} {E : Value → Shared → Prop} {s : Shared}

theorem cat_tup {t b : Addr} {vs ws : List Value} {Q : Value → Shared → Prop} (ht : IsTup s.heap t vs.toArray) (hb : IsTup s.heap b ws.toArray) (hv : vs ≠ [])
    (h1 : ws = [] → Q (.ref t) s) (h2 : ws ≠ [] → Q (.ref s.heap.objs.size) { s with heap := s.heap.push { cls := .type "tuple", data := .seq (vs ++ ws).toArray } })
    (hsz : vs.length + ws.length ≤ sizeLine) : wpAny (model prog w) A (binaryOp .Add (.ref t) (.ref b)) Q E s := by
  obtain ⟨⟨cls, dd, data, sl⟩, ho, hc, n, hd⟩ := id ht
  obtain ⟨⟨cls2, dd2, data2, sl2⟩, ho2, hc2, n2, hd2⟩ := id hb
  simp only at hc hd hc2 hd2
  subst hc hd hc2 hd2
  have e : vs.toArray ++ ws.toArray = (vs ++ ws).toArray := by simp
  by_cases hw : ws = []
  · exact concat_meets ⟨_, ho, rfl⟩ ⟨_, ho2, rfl⟩ noFill_tuple_add seq_tuple_add PySem.F.slot_tuple_add PySem.F.entry_tuple_add (PySem.F.args_tuple_add_2 _ _)
      (tuple_addW1 t b vs.toArray ws.toArray n n2 dd dd2 sl sl2 (by simpa using hv) (by simp [hw])) ⟨ho, ho2, h1 hw⟩
  · refine concat_meets ⟨_, ho, rfl⟩ ⟨_, ho2, rfl⟩ noFill_tuple_add seq_tuple_add PySem.F.slot_tuple_add PySem.F.entry_tuple_add (PySem.F.args_tuple_add_2 _ _)
      (tuple_addW2 t b vs.toArray ws.toArray n n2 dd dd2 sl sl2 (by simpa using hv) (by simpa using hw) (by rw [List.size_toArray, List.size_toArray]; exact hsz)) ⟨ho, ho2, ?_⟩
    rw [e]
    exact h2 hw

def sIx (n d : Nat) : Option Int → Nat
  | none => d
  | some v => if v < 0 then (v + (n : Int)).toNat else min v.toNat n
theorem sIx_le (n d : Nat) (hd : d ≤ n) (o : Option Int) : sIx n d o ≤ n := by
  cases o with
  | none => exact hd
  | some v =>
    show (if v < 0 then (v + (n : Int)).toNat else min v.toNat n) ≤ n
    by_cases hv : v < 0
    · rw [if_pos hv]; omega
    · rw [if_neg hv]; exact Nat.min_le_right _ _
theorem clip_eq (v : Int) (n d : Nat) : (if v < 0 then max (v + (n : Int)) 0 else min v (n : Int)) = ((sIx n d (some v) : Nat) : Int) := by
  show (if v < 0 then max (v + (n : Int)) 0 else min v (n : Int)) = (((if v < 0 then (v + (n : Int)).toNat else min v.toNat n) : Nat) : Int)
  by_cases hv : v < 0
  · simp only [if_pos hv]; omega
  · simp only [if_neg hv]; omega
theorem adjust_gen (lo hi : Option Int) (n : Nat) : Builtin.Slice.sliceAdjust lo hi 1 (n : Int) = (((sIx n 0 lo : Nat) : Int), ((sIx n n hi : Nat) : Int)) := by
  have h1 : ¬ ((1 : Int) < 0) := by omega
  unfold Builtin.Slice.sliceAdjust
  simp only [h1, if_false]
  refine Prod.ext ?_ ?_
  · cases lo with
    | none => rfl
    | some v => exact clip_eq v n 0
  · cases hi with
    | none => rfl
    | some v => exact clip_eq v n n
theorem places_gen (i j : Nat) : Builtin.Slice.slicePlaces (i : Int) (j : Int) 1 = j - i := by
  unfold Builtin.Slice.slicePlaces
  have h1 : (1 : Int) > 0 := by omega
  simp only [h1, if_true, Int.ediv_one]
  split <;> omega
theorem slicePart_ {v : Value} {o : Option Int} {Q : Option Int → Shared → Prop} (p : IsPart v o) (h : Q o s) : wpAny (model prog w) A (Builtin.Slice.slicePartIndex v) Q E s := by
  cases p with
  | none => exact slicePart_none h
  | int i t => exact slicePart_int h
theorem sliceApplied_gen {sl : Addr} {vl vu : Value} {lo hi : Option Int} {n : Nat} {Q : Int × Int × Nat → Shared → Prop} (hs : s.heap.IsSliceOf sl vl vu .none) (pl : IsPart vl lo) (pu : IsPart vu hi)
    (h : Q (((sIx n 0 lo : Nat) : Int), 1, sIx n n hi - sIx n 0 lo) s) : wpAny (model prog w) A (Builtin.Slice.sliceApplied (.ref sl) (pure (n : Int))) Q E s := by
  obtain ⟨os, hos, hcs, hds⟩ := id hs
  unfold Builtin.Slice.sliceApplied Builtin.Slice.sliceFields
  refine wpAny_bind (wpAny_bind (wpAny_field hos hds (x := vl) rfl (wpAny_bind (wpAny_field hos hds (x := vu) rfl (wpAny_bind (wpAny_field hos hds (x := .none) rfl (wpAny_pure ?_)))))))
  refine wpAny_bind (slicePart_none ?_)
  show wpAny _ _ (if ((1 : Int) == 0) = true then _ else _) _ _ s
  rw [if_neg (by decide)]
  refine wpAny_bind (slicePart_ pl (wpAny_bind (slicePart_ pu (wpAny_bind (wpAny_pure ?_)))))
  show wpAny _ _ (match Builtin.Slice.sliceAdjust lo hi 1 (n : Int) with | (lo, hi) => pure (lo, (1 : Int), Builtin.Slice.slicePlaces lo hi 1)) _ _ s
  rw [adjust_gen lo hi n]
  show wpAny _ _ (pure (((sIx n 0 lo : Nat) : Int), (1 : Int), Builtin.Slice.slicePlaces ((sIx n 0 lo : Nat) : Int) ((sIx n n hi : Nat) : Int) 1)) _ _ s
  rw [places_gen]
  exact wpAny_pure h
theorem pick_gen (xs : Array Value) (i k : Nat) : ((List.range k).filterMap fun (m : Nat) => xs[((i : Int) + (m : Int) * 1).toNat]?).toArray = ((xs.toList.drop i).take k).toArray := by
  have e : (fun (m : Nat) => xs[((i : Int) + (m : Int) * 1).toNat]?) = fun m => xs[i + m]? := by
    funext m
    have : ((i : Int) + (m : Int) * 1).toNat = i + m := by omega
    rw [this]
  rw [e]
  have := pick_run xs i k
  rw [List.filterMap_map] at this
  have e2 : ((fun x => xs[x]?) ∘ fun x => i + x) = fun m => xs[i + m]? := rfl
  rw [e2] at this
  rw [this]

theorem getItem_tuple_cut {t sl : Addr} {items : Array Value} {vl vu : Value} {lo hi : Option Int} {Q : Value → Shared → Prop} (ht : IsTup s.heap t items) (hs : s.heap.IsSliceOf sl vl vu .none) (pl : IsPart vl lo) (pu : IsPart vu hi)
    (hw : ¬ (sIx items.size 0 lo = 0 ∧ sIx items.size items.size hi = items.size))
    (h : Q (.ref s.heap.objs.size) { s with heap := s.heap.push { cls := .type "tuple", data := .seq ((items.toList.drop (sIx items.size 0 lo)).take (sIx items.size items.size hi - sIx items.size 0 lo)).toArray } })
    (hsz : items.size ≤ sizeLine) : wpAny (model prog w) A (getItem (.ref t) (.ref sl)) Q E s := by
  have htake : sizeOk (.seq ((items.toList.drop (sIx items.size 0 lo)).take (sIx items.size items.size hi - sIx items.size 0 lo)).toArray) := by
    show ((items.toList.drop (sIx items.size 0 lo)).take (sIx items.size items.size hi - sIx items.size 0 lo)).toArray.size ≤ sizeLine
    rw [List.size_toArray, List.length_take, List.length_drop, Array.length_toList]
    omega
  have hj : sIx items.size items.size hi ≤ items.size := sIx_le _ _ (Nat.le_refl _) hi
  obtain ⟨os, hos, hcs, hds⟩ := id hs
  have hTs : s.TypeIs (.ref sl) "slice" := ⟨os, hos, hcs⟩
  unfold getItem
  try with_reducible refine wpAny_holding ?_
  first | refine wpAny_bind (wpAny_pure ?_) | skip
  refine wpAny_bind (wpAny_sequenceKey ht.typeIs (by decide) ?_)
  refine wpAny_bind (wpAny_callSpecial?_slot (name := Str.ofString "__getitem__") ht.typeIs PyProof.Rows.slot_tuple_getitem
    (wpAny_call_entry PyProof.Rows.slot_tuple_getitem ht.typeIs entry_tuple_getitem ?_ (args_tuple_getitem _ _)))
  show wpAny _ _ (Builtin.Tuple.tupleItemsOf (.ref t) >>= _) _ _ s
  refine wpAny_bind (tupleItemsOf_ ht ?_)
  refine wpAny_bind (wpAny_typeOf hTs ?_)
  rw [if_pos (by decide)]
  refine wpAny_bind (sliceApplied_gen hs pl pu ?_)
  have hno : ¬ ((((sIx items.size 0 lo : Nat) : Int) == 0 && (1 : Int) == 1 && (sIx items.size items.size hi - sIx items.size 0 lo) == items.size) = true) := by
    intro q
    rw [Bool.and_eq_true, Bool.and_eq_true] at q
    have q1 : ((sIx items.size 0 lo : Nat) : Int) = 0 := eq_of_beq q.1.1
    have q2 : sIx items.size items.size hi - sIx items.size 0 lo = items.size := eq_of_beq q.2
    exact hw ⟨by omega, by omega⟩
  show wpAny _ _ (if (((sIx items.size 0 lo : Nat) : Int) == 0 && (1 : Int) == 1 && (sIx items.size items.size hi - sIx items.size 0 lo) == items.size) = true then _ else _) _ _ s
  rw [if_neg hno, pick_gen]
  first
    | exact wpAny_bind (m := Builtin.Tuple.tupleExact _) (wpAny_newObj_type (wpAny_pure ⟨_, rfl, wpAny_pure h⟩) htake)
    | exact wpAny_bind (m := Builtin.Tuple.tupleExact _) (wpAny_newObj_type (wpAny_bind (wpAny_pure (wpAny_pure ⟨_, rfl, wpAny_pure h⟩))) htake)
    | exact wpAny_bind (wpAny_bind (m := Builtin.Tuple.tupleExact _) (wpAny_newObj_type (wpAny_pure (wpAny_pure ⟨_, rfl, wpAny_pure h⟩)) htake))
    | exact wpAny_bind (wpAny_bind (m := Builtin.Tuple.tupleExact _) (wpAny_newObj_type (wpAny_pure ⟨_, rfl, wpAny_pure h⟩) htake))
end
end HT

namespace L2
open PySem PySem.Spec PyProof.Rows

abbrev TO := St → Hp → (Option Int → Hp → Prop) → Prop
def PO (X : Cx) (e : Option Expr) (t : TO) : Prop :=
  ∀ (pins : List (Addr × Obj)) (s : Shared) (σ : St) (H : Hp) (Q : Option Int → Hp → Prop), Inv X pins σ H s → t σ H Q →
    wpAny (model X.prog X.w) X.A (evalPart e X.env) (fun u s' => ∃ o H', Inv X pins σ H' s' ∧ IsPart u o ∧ Q o H') X.xe s
def tNoPart : TO := fun _ H Q => Q none H
def tPart (t : TE) : TO := fun σ H Q => t σ H fun x H1 => ∃ i, x = .int i ∧ Q (some i) H1

theorem intsAre_of {ns : List Int} : ∀ {us : List Value}, Vals (ns.map V.int) us → IntsAre us ns := by
  induction ns with
  | nil => intro us r; rw [List.map_nil] at r; cases r; exact .nil
  | cons n ns ih =>
    intro us r
    rw [List.map_cons] at r
    cases r with
    | cons r1 r2 =>
      obtain ⟨t, e⟩ := r1
      subst e
      exact .cons n t (ih r2)

section
variable {X : Cx} {e : Expr} {te : TE} {lo hi : Option Expr} {tl th : TO} {pos p2 : Pos}

theorem po_none : PO X none tNoPart := by
  intro pins s σ H Q I h
  rw [evalPart_none]
  exact wpAny_pure ⟨none, H, I, .none, h⟩
theorem po_some (h : PE X e te) : PO X (some e) (tPart te) := by
  intro pins s σ H Q I hw
  rw [evalPart_some]
  refine thn (h pins s σ H _ I hw) fun u s1 ⟨x, H1, I1, r1, q1⟩ => ?_
  obtain ⟨i, rfl, q⟩ := q1
  obtain ⟨t, rfl⟩ := r1
  exact ⟨some i, H1, I1, .int i t, q⟩

def SlR (X : Cx) (r : V → Option Int → Option Int → Hp → VK → Prop) : Prop :=
  ∀ (pins : List (Addr × Obj)) (s : Shared) (σ : St) (H : Hp) (x : V) (v vl vu : Value) (lo hi : Option Int) (sl : Addr) (Q : VK), Inv X pins σ H s → RelV x v → s.heap.IsSliceOf sl vl vu .none → IsPart vl lo → IsPart vu hi → r x lo hi H Q →
    ∃ T id, typeLookup (.type T) "__getitem__" = pure (some (.builtin id)) ∧ s.TypeIs v T ∧ wpAny (model X.prog X.w) X.A (getItem v (.ref sl)) (EP X pins σ Q) X.xe s
theorem SlR.or {r r' : V → Option Int → Option Int → Hp → VK → Prop} (h : SlR X r) (h' : SlR X r') : SlR X (fun x lo hi H Q => r x lo hi H Q ∨ r' x lo hi H Q) := by
  intro pins s σ H x v vl vu lo hi sl Q I rx hs pl pu q
  rcases q with q | q
  · exact h pins s σ H x v vl vu lo hi sl Q I rx hs pl pu q
  · exact h' pins s σ H x v vl vu lo hi sl Q I rx hs pl pu q
def tSl (r : V → Option Int → Option Int → Hp → VK → Prop) (te : TE) (tl th : TO) : TE := fun σ H Q => te σ H fun x H1 => tl σ H1 fun l H2 => th σ H2 fun u H3 => r x l u H3 Q
theorem pe_slice {r : V → Option Int → Option Int → Hp → VK → Prop} (hr : SlR X r) (he : PE X e te) (hl : PO X lo tl) (hu : PO X hi th) : PE X (.Subscript e (.Slice lo hi none p2) pos) (tSl r te tl th) := by
  intro pins s σ H Q I h
  refine Subscript_ (thn (he pins s σ H _ I h) fun v s1 ⟨x, H1, I1, r1, q1⟩ => ?_)
  refine wpAny_Slice (thn (hl pins s1 σ H1 _ I1 q1) fun vl s2 ⟨l, H2, I2, pl, q2⟩ => thn (hu pins s2 σ H2 _ I2 q2) fun vu s3 ⟨u, H3, I3, pu, q3⟩ => ?_)
  rw [evalPart_none]
  refine wpAny_pure ?_
  have I4 : Inv X pins σ H3 { s3 with heap := s3.heap.push { cls := .type "slice", data := .fields #[vl, vu, .none] } } := I3.kept (t' := s3.toks) fun b ob q => Heap.get?_push_of_some _ q
  obtain ⟨T, id, hT, ht, hg⟩ := hr pins { s3 with heap := s3.heap.push { cls := .type "slice", data := .fields #[vl, vu, .none] } } σ H3 x v vl vu l u s3.heap.objs.size Q I4 r1 (Heap.IsSliceOf.new ..) pl pu q3
  show wpAny (model X.prog X.w) X.A (subscriptTail e (.Slice lo hi none p2) v (.ref s3.heap.objs.size)) (EP X pins σ Q) X.xe { s3 with heap := s3.heap.push { cls := .type "slice", data := .fields #[vl, vu, .none] } }
  exact tail_any (ops := [.ref s3.heap.objs.size, v]) ht hT hg (by with_unfolding_all rfl)

def cutV (xs : List V) (lo hi : Option Int) : List V := (xs.drop (HT.sIx xs.length 0 lo)).take (HT.sIx xs.length xs.length hi - HT.sIx xs.length 0 lo)
theorem cutV_length (xs : List V) (lo hi : Option Int) : (cutV xs lo hi).length ≤ xs.length := by
  unfold cutV
  rw [List.length_take, List.length_drop]
  omega
def rSlT (K : PySem.W.Frag) : V → Option Int → Option Int → Hp → VK → Prop := fun x lo hi H Q => ∃ a xs, x = .ref a ∧ SqT K H a xs ∧
  ¬ (HT.sIx xs.length 0 lo = 0 ∧ HT.sIx xs.length xs.length hi = xs.length) ∧ ∀ p, H p = none → Q (.ref p) (upd H p (.tup (cutV xs lo hi)))
theorem sl_tup : SlR X (rSlT X.K) := by
  intro pins s σ H x v vl vu lo hi sl Q I rx hs pl pu h
  obtain ⟨a, xs, rfl, hx, hw, q⟩ := h
  cases rx
  obtain ⟨its, r, ht, hz⟩ := I.tuple hx
  have hlen : its.toArray.size = xs.length := by rw [List.size_toArray]; exact r.length.symm
  refine ⟨"tuple", _, PyProof.Rows.slot_tuple_getitem.lookup, ht.typeIs, ?_⟩
  refine HT.getItem_tuple_cut ht hs pl pu (by rw [hlen]; exact hw) ?_ (by rw [hlen]; exact hz)
  rw [hlen]
  refine ⟨.ref s.heap.objs.size, _, I.laid (t' := s.toks) (o := .tup (cutV xs lo hi)) (fun b ob q => Heap.get?_push_of_some _ q) (Nat.le_refl _) ?_, rfl, q _ (I.hok.fresh (Nat.le_refl _))⟩
  exact ⟨Nat.le_trans (cutV_length xs lo hi) hz, _, (r.drop (HT.sIx xs.length 0 lo)).take (HT.sIx xs.length xs.length hi - HT.sIx xs.length 0 lo), IsTup.new _ _⟩

def rCatT (K : PySem.W.Frag) : R2 := fun x y H Q => ∃ a b xs ys, x = .ref a ∧ y = .ref b ∧ SqT K H a xs ∧ SqT K H b ys ∧ xs ≠ [] ∧ xs.length + ys.length ≤ sizeLine ∧
  (ys = [] → Q (.ref a) H) ∧ (ys ≠ [] → ∀ p, H p = none → Q (.ref p) (upd H p (.tup (xs ++ ys))))
theorem Vals.nil_iff {xs : List V} {us : List Value} (r : Vals xs us) : us = [] ↔ xs = [] := by
  cases r with
  | nil => simp
  | cons _ _ => simp
theorem op_catT : OpR X (binaryOp .Add) (rCatT X.K) := by
  intro pins s σ H x y v u Q I rx ry h
  obtain ⟨a, b, xs, ys, rfl, rfl, ha, hb, hx, hz, q1, q2⟩ := h
  cases rx
  cases ry
  obtain ⟨its, r1, p1, _⟩ := I.tuple ha
  obtain ⟨its2, r2, p2, _⟩ := I.tuple hb
  refine HT.cat_tup p1 p2 (fun z => hx (r1.nil_iff.mp z)) (fun z => ⟨.ref a, H, I, rfl, q1 (r2.nil_iff.mp z)⟩) (fun z => ?_) (by rw [← r1.length, ← r2.length]; exact hz)
  refine ⟨.ref s.heap.objs.size, _, I.laid (t' := s.toks) (o := .tup (xs ++ ys)) (fun b ob q => Heap.get?_push_of_some _ q) (Nat.le_refl _) ?_, rfl, q2 (fun w => z (r2.nil_iff.mpr w)) _ (I.hok.fresh (Nat.le_refl _))⟩
  exact ⟨by rw [List.length_append]; exact hz, _, r1.append r2, IsTup.new _ _⟩
end
end L2

namespace L2
open PySem PySem.Spec PyProof.Rows

def ixN (n : Nat) (i : Int) : Option Nat := if 0 ≤ i then (if i < n then some i.toNat else none) else if -(n : Int) ≤ i then some (i + n).toNat else none
def atI {α : Type} (xs : List α) (i : Int) : Option α := (ixN xs.length i).bind fun j => xs[j]?
theorem ixN_seq {n : Nat} {i : Int} {j : Nat} (h : ixN n i = some j) : seqIndex? i n = some j ∧ j < n ∧ -(n : Int) ≤ i ∧ i < n := by
  unfold ixN at h
  by_cases h0 : 0 ≤ i
  · rw [if_pos h0] at h
    by_cases h1 : i < n
    · rw [if_pos h1] at h
      have e : i.toNat = j := Option.some.inj h
      exact ⟨by rw [seqIndex_of h0 h1, e], by omega, by omega, h1⟩
    · rw [if_neg h1] at h; cases h
  · rw [if_neg h0] at h
    by_cases h1 : -(n : Int) ≤ i
    · rw [if_pos h1] at h
      have e : (i + n).toNat = j := Option.some.inj h
      exact ⟨by rw [seqIndex_neg (by omega) h1, e], by omega, h1, by omega⟩
    · rw [if_neg h1] at h; cases h
theorem atI_get {α : Type} {xs : List α} {i : Int} {v : α} (h : atI xs i = some v) : ∃ j, seqIndex? i xs.length = some j ∧ xs[j]? = some v ∧ j < xs.length ∧ -(xs.length : Int) ≤ i ∧ i < xs.length := by
  unfold atI at h
  cases e : ixN xs.length i with
  | none => rw [e] at h; cases h
  | some j =>
    rw [e] at h
    obtain ⟨h1, h2, h3, h4⟩ := ixN_seq e
    exact ⟨j, h1, h, h2, h3, h4⟩
theorem atI_last {α : Type} (xs : List α) (v : α) : atI (xs ++ [v]) (-1) = some v := by
  have hl : (xs ++ [v]).length = xs.length + 1 := by simp
  have e : ixN (xs ++ [v]).length (-1) = some xs.length := by
    unfold ixN
    rw [hl, if_neg (by decide), if_pos (by omega)]
    congr 1
    omega
  unfold atI
  rw [e]
  show (xs ++ [v])[xs.length]? = some v
  simp

def PlainIx (b : Expr) : Prop := ∀ o i, subscripted b false o i = operate [o, i] (getItem o i)
def IxR (X : Cx) (r : R2) : Prop :=
  ∀ (value slice : Expr) (pins : List (Addr × Obj)) (s : Shared) (σ : St) (H : Hp) (x y : V) (v u : Value) (Q : VK), Inv X pins σ H s → RelV x v → RelV y u → r x y H Q →
    subscripted slice false v u = operate [v, u] (getItem v u) → wpAny (model X.prog X.w) X.A (subscriptTail value slice v u) (EP X pins σ Q) X.xe s
def MtR (X : Cx) (id : String) (r : V → List V → Hp → VK → Prop) : Prop :=
  ∀ (pins : List (Addr × Obj)) (s : Shared) (σ : St) (H : Hp) (x : V) (xs : List V) (v : Value) (us : List Value) (Q : VK), Inv X pins σ H s → RelV x v → Vals xs us → r x xs H Q →
    wpAny (model X.prog X.w) X.A (call (.builtin id) (v :: us)) (EP X pins σ Q) X.xe s
section
variable {X : Cx} {a b : Expr} {ta tb : TE} {pos : Pos}
theorem pe_ix {r : R2} (hr : IxR X r) (ha : PE X a ta) (hb : PE X b tb) (hs : PlainIx b) : PE X (.Subscript a b pos) (tOp r ta tb) := by
  intro pins s σ H Q I h
  exact Subscript_ (binT ha hb I h fun v u s2 x y H2 I2 rx ry q => hr a b pins s2 σ H2 x y v u Q I2 rx ry q (hs _ _))

def rIxL (K : PySem.W.Frag) : R2 := fun x y H Q => ∃ p xs i v, x = .ref p ∧ y = .int i ∧ SqL K H p xs ∧ atI xs i = some v ∧ Q v H
def rIxT (K : PySem.W.Frag) : R2 := fun x y H Q => ∃ p xs i v, x = .ref p ∧ y = .int i ∧ SqT K H p xs ∧ atI xs i = some v ∧ Q v H
def rIxS : R2 := fun x y H Q => ∃ z i c, x = .str z ∧ y = .int i ∧ z.length ≤ sizeLine ∧ atI z.cps.toList i = some c ∧ Q (.str ⟨#[c]⟩) H
theorem ix_list : IxR X (rIxL X.K) := by
  intro value slice pins s σ H x y v u Q I rx ry h hs
  obtain ⟨p, xs, i, z, rfl, rfl, hq, he, q⟩ := h
  cases rx
  obtain ⟨t, rfl⟩ := ry
  obtain ⟨its, r, pl, hz⟩ := I.list hq
  obtain ⟨j, h1, h2, h3, h4, h5⟩ := atI_get he
  obtain ⟨w, ew, rw'⟩ := r.get h2
  have hl := r.length
  have hn := line63
  have fin : EP X pins σ Q w s := ⟨z, H, I, rw', q⟩
  by_cases h0 : 0 ≤ i
  · have hj : i.toNat = j := by
      rw [seqIndex_of h0 h5] at h1
      exact Option.some.inj h1
    exact item_listR pl.isList h0 (by omega) (by rw [hj]; simpa using ew) fin hs
  · have hj : (i + (its.toArray.size : Int)).toNat = j := by
      rw [seqIndex_neg (by omega) h4] at h1
      rw [List.size_toArray, ← hl]
      exact Option.some.inj h1
    exact subscriptTail_builtinR (x := w) pl.isList.typeIs slot_list_getitem.lookup
      (wpAny_getItem_list_neg (Q := fun r s' => r = w ∧ EP X pins σ Q r s') pl.isList (by omega) (by rw [List.size_toArray] <;> omega) (by omega) (by rw [hj]; simpa using ew) ⟨rfl, fin⟩) hs
theorem ix_tup : IxR X (rIxT X.K) := by
  intro value slice pins s σ H x y v u Q I rx ry h hs
  obtain ⟨p, xs, i, z, rfl, rfl, hq, he, q⟩ := h
  cases rx
  obtain ⟨t, rfl⟩ := ry
  obtain ⟨its, r, pl, hz⟩ := I.tuple hq
  obtain ⟨j, h1, h2, h3, h4, h5⟩ := atI_get he
  obtain ⟨w, ew, rw'⟩ := r.get h2
  have hl := r.length
  have hn := line63
  have fin : EP X pins σ Q w s := ⟨z, H, I, rw', q⟩
  exact subscriptTail_builtinR (x := w) pl.typeIs slot_tuple_getitem.lookup
    (getItem_tuple (j := j) (Q := fun r s' => r = w ∧ EP X pins σ Q r s') pl (by omega) (by omega) (by rw [List.size_toArray, ← hl]; exact h1) (by simpa using ew) ⟨rfl, fin⟩) hs
theorem ix_str : IxR X rIxS := by
  intro value slice pins s σ H x y v u Q I rx ry h hs
  obtain ⟨z, i, c, rfl, rfl, hz, he, q⟩ := h
  obtain ⟨t, rfl⟩ := rx
  obtain ⟨t', rfl⟩ := ry
  obtain ⟨j, h1, h2, h3, h4, h5⟩ := atI_get he
  have hl : z.cps.toList.length = z.length := by simp [Str.length]
  rw [hl] at h1 h4 h5
  have hn := line63
  exact tail_any (typeIs_str s z t) slot_str_getitem.lookup (getItem_str (c := c) (by
    have e1 : decide (i < -(2 ^ 63 : Int)) = false := decide_eq_false (by omega)
    have e2 : decide (i ≥ 2 ^ 63) = false := decide_eq_false (by omega)
    rw [e1, e2, Bool.or_false]) (by rw [h1]; simpa using h2) ⟨.str ⟨#[c]⟩, H, I.tok _, ⟨_, rfl⟩, q⟩) hs
theorem slice_bounds (lo hi : Option Int) (n : Nat) : (sliceBounds lo hi none n).1 = ((HT.sIx n 0 lo : Nat) : Int) ∧ (sliceBounds lo hi none n).2.1 = ((HT.sIx n n hi : Nat) : Int) ∧ (sliceBounds lo hi none n).2.2 = 1 := by
  refine ⟨?_, ?_, rfl⟩
  · cases lo with
    | none => simp [sliceBounds, HT.sIx]
    | some i =>
      simp only [sliceBounds, HT.sIx, Option.getD_none, show (1 : Int) > 0 by decide, if_true]
      by_cases h : i < 0
      · simp only [h, if_true] <;> omega
      · simp only [h, if_false] <;> omega
  · cases hi with
    | none => simp [sliceBounds, HT.sIx]
    | some i =>
      simp only [sliceBounds, HT.sIx, Option.getD_none, show (1 : Int) > 0 by decide, if_true]
      by_cases h : i < 0
      · simp only [h, if_true] <;> omega
      · simp only [h, if_false] <;> omega
theorem slicePick_cut (its : List Value) (lo hi : Option Int) : slicePick its.toArray lo hi none = ((its.drop (HT.sIx its.length 0 lo)).take (HT.sIx its.length its.length hi - HT.sIx its.length 0 lo)).toArray := by
  obtain ⟨h1, h2, h3⟩ := slice_bounds lo hi its.toArray.size
  unfold slicePick
  rw [h1, h2, h3]
  simp only [sliceRange_one, pick_run, List.size_toArray] <;> rfl
def rSlL (K : PySem.W.Frag) : V → Option Int → Option Int → Hp → VK → Prop := fun x lo hi H Q => ∃ a xs, x = .ref a ∧ SqL K H a xs ∧ ∀ p, H p = none → Q (.ref p) (upd H p (.lst (cutV xs lo hi)))
theorem sl_list : SlR X (rSlL X.K) := by
  intro pins s σ H x v vl vu lo hi sl Q I rx hs pl pu h
  obtain ⟨a, xs, rfl, hx, q⟩ := h
  cases rx
  obtain ⟨its, r, ht, hz⟩ := I.list hx
  have hlen := r.length
  refine ⟨"list", _, slot_list_getitem.lookup, ht.isList.typeIs, ?_⟩
  refine wpAny_getItem_list_slice ht.isList hs pl pu .none (by simp) ?_ (by rw [List.size_toArray] <;> omega)
  rw [slicePick_cut, ← hlen]
  refine ⟨.ref s.heap.objs.size, _, I.laid (t' := s.toks) (o := .lst (cutV xs lo hi)) (fun b ob q => Heap.get?_push_of_some _ q) (Nat.le_refl _) ?_, rfl, q _ (I.hok.fresh (Nat.le_refl _))⟩
  exact ⟨Nat.le_trans (cutV_length xs lo hi) hz, _, 0, (r.drop (HT.sIx xs.length 0 lo)).take (HT.sIx xs.length xs.length hi - HT.sIx xs.length 0 lo), Heap.get?_push_size _ rfl⟩

def flatV : V → Bool
  | .non => true
  | .bl _ => true
  | .int _ => true
  | .str _ => true
  | _ => false
def eqV : V → V → Bool
  | .non, .non => true
  | .bl a, .bl b => a == b
  | .bl a, .int b => (if a then 1 else 0) == b
  | .int a, .bl b => a == (if b then 1 else 0)
  | .int a, .int b => a == b
  | .str a, .str b => a == b
  | _, _ => false
theorem eqAt_V {A : Around} {s : Shared} {y x : V} {u v : Value} (ry : RelV y u) (rx : RelV x v) (fy : flatV y = true) (fx : flatV x = true) : SeqAt.EqAt A s u v (eqV y x) := by
  cases y with
  | non =>
    cases ry
    cases x with
    | non => cases rx; exact SeqAt.EqAt.same _
    | bl b => cases rx; exact SeqAt.EqAt.none_bool b
    | int b => obtain ⟨t, rfl⟩ := rx; exact SeqAt.EqAt.none_int b t
    | str b => obtain ⟨t, rfl⟩ := rx; exact SeqAt.EqAt.none_str b t
    | _ => exact absurd (show false = true from fx) Bool.false_ne_true
  | bl a =>
    cases ry
    cases x with
    | non => cases rx; exact SeqAt.EqAt.bool_none a
    | bl b => cases rx; exact SeqAt.EqAt.bool_bool a b
    | int b => obtain ⟨t, rfl⟩ := rx; exact SeqAt.EqAt.bool_int a b t
    | str b => obtain ⟨t, rfl⟩ := rx; exact SeqAt.EqAt.bool_str a b t
    | _ => exact absurd (show false = true from fx) Bool.false_ne_true
  | int a =>
    obtain ⟨t', rfl⟩ := ry
    cases x with
    | non => cases rx; exact SeqAt.EqAt.int_none a t'
    | bl b => cases rx; exact SeqAt.EqAt.int_bool a t' b
    | int b => obtain ⟨t, rfl⟩ := rx; exact SeqAt.EqAt.int_int a t' b t
    | str b => obtain ⟨t, rfl⟩ := rx; exact SeqAt.EqAt.int_str a t' b t
    | _ => exact absurd (show false = true from fx) Bool.false_ne_true
  | str a =>
    obtain ⟨t', rfl⟩ := ry
    cases x with
    | non => cases rx; exact SeqAt.EqAt.str_none a t'
    | bl b => cases rx; exact SeqAt.EqAt.str_bool a t' b
    | int b => obtain ⟨t, rfl⟩ := rx; exact SeqAt.EqAt.str_int a t' b t
    | str b => obtain ⟨t, rfl⟩ := rx; exact SeqAt.EqAt.str_str a t' b t
    | _ => exact absurd (show false = true from fx) Bool.false_ne_true
  | _ => exact absurd (show false = true from fy) Bool.false_ne_true
def eqU (x : V) (u : Value) : Bool := match u with
  | .none => eqV .non x
  | .bool b => eqV (.bl b) x
  | .int i _ => eqV (.int i) x
  | .str z _ => eqV (.str z) x
  | _ => false
theorem eqU_of {x y : V} {u : Value} (r : RelV y u) (f : flatV y = true) : eqU x u = eqV y x := by
  cases y with
  | non => cases r; rfl
  | bl b => cases r; rfl
  | int i => obtain ⟨t, rfl⟩ := r; rfl
  | str z => obtain ⟨t, rfl⟩ := r; rfl
  | _ => exact absurd (show false = true from f) Bool.false_ne_true
theorem any_eqU {x : V} : ∀ {xs : List V} {us : List Value}, Vals xs us → xs.all flatV = true → us.any (eqU x) = xs.any fun y => eqV y x
  | _, _, .nil, _ => rfl
  | y :: xs, u :: us, .cons r t, f => by
    rw [List.all_cons, Bool.and_eq_true] at f
    rw [List.any_cons, List.any_cons, eqU_of r f.1, any_eqU t f.2]
theorem mem_eqAt {A : Around} {s : Shared} {x : V} {v : Value} (rx : RelV x v) (fx : flatV x = true) : ∀ {xs : List V} {us : List Value}, Vals xs us → xs.all flatV = true → ∀ u ∈ us, SeqAt.EqAt A s u v (eqU x u)
  | _, _, .nil, _ => fun u hu => by cases hu
  | y :: xs, u :: us, .cons r t, f => fun u' hu => by
    rw [List.all_cons, Bool.and_eq_true] at f
    rcases List.mem_cons.mp hu with rfl | hu
    · rw [eqU_of r f.1]; exact eqAt_V r rx f.1 fx
    · exact mem_eqAt rx fx t f.2 u' hu
def inV (x : V) (xs : List V) : Bool := xs.any fun y => eqV y x
def rIn (K : PySem.W.Frag) (neg : Bool) : R2 := fun x y H Q => ∃ p xs, y = .ref p ∧ (SqL K H p xs ∨ SqT K H p xs) ∧ flatV x = true ∧ xs.all flatV = true ∧ Q (.bl (if neg then !inV x xs else inV x xs)) H
theorem op_notIn_seq : OpR X (compareOp .NotIn) (rIn X.K true) := by
  intro pins s σ H x y v u Q I rx ry h
  obtain ⟨p, xs, rfl, hq, fx, fs, q⟩ := h
  cases ry
  rcases hq with hq | hq
  · obtain ⟨its, r, pl, hz⟩ := I.list hq
    refine SeqAt.notIn_listAt (eqU x) pl.isList (fun w hw => mem_eqAt rx fx r fs w (by simpa using hw)) ⟨.bl _, H, I, rfl, ?_⟩
    rw [show its.toArray.any (eqU x) = its.any (eqU x) by simp, any_eqU r fs]
    exact q
  · obtain ⟨its, r, pl, hz⟩ := I.tuple hq
    refine SeqAt.notIn_tupleAt (eqU x) pl (fun w hw => mem_eqAt rx fx r fs w (by simpa using hw)) ⟨.bl _, H, I, rfl, ?_⟩
    rw [show its.toArray.any (eqU x) = its.any (eqU x) by simp, any_eqU r fs]
    exact q
theorem call_len_seq : CallR X (.builtin "len") (fun xs H Q => ∃ p ys, xs = [.ref p] ∧ (SqL X.K H p ys ∨ SqT X.K H p ys) ∧ Q (.int ys.length) H) := by
  intro pins s σ H xs us Q I r h
  obtain ⟨p, ys, rfl, hq, q⟩ := h
  obtain ⟨u, rfl, rx⟩ := vals1 r
  cases rx
  have hn := line63
  rcases hq with hq | hq
  · obtain ⟨its, r', pl, hz⟩ := I.list hq
    have hlen := r'.length
    exact Calls.call_len_list pl.isList (by simp only [List.size_toArray] <;> omega) ⟨.int ys.length, H, I.tok _, ⟨s.toks + 1, by rw [List.size_toArray, hlen]⟩, q⟩
  · obtain ⟨its, r', pl, hz⟩ := I.tuple hq
    have hlen := r'.length
    exact len_tuple pl (by simp only [List.size_toArray] <;> omega) ⟨.int ys.length, H, I.tok _, ⟨s.toks + 1, by rw [List.size_toArray, hlen]⟩, q⟩
theorem call_len_str : CallR X (.builtin "len") (fun xs H Q => ∃ z, xs = [.str z] ∧ z.length ≤ sizeLine ∧ Q (.int z.length) H) := by
  intro pins s σ H xs us Q I r h
  obtain ⟨z, rfl, hz, q⟩ := h
  obtain ⟨u, rfl, t, rfl⟩ := vals1 r
  have hn := line63
  exact len_str (by omega) ⟨.int z.length, H, I.tok _, ⟨_, rfl⟩, q⟩
theorem CallR.or {f : Value} {r r' : List V → Hp → VK → Prop} (h : CallR X f r) (h' : CallR X f r') : CallR X f (fun xs H Q => r xs H Q ∨ r' xs H Q) := by
  intro pins s σ H xs us Q I rs q
  rcases q with q | q
  · exact h pins s σ H xs us Q I rs q
  · exact h' pins s σ H xs us Q I rs q
def tyV (K : PySem.W.Frag) (T : String) (x : V) (H : Hp) : Prop := match x with
  | .str _ => T = "str"
  | .int _ => T = "int"
  | .ref p => (T = "list" ∧ ∃ xs, SqL K H p xs) ∨ (T = "tuple" ∧ ∃ o, K.lookup p = some o ∧ o.cls = .type "tuple" ∧ o.dict = none) ∨
      (T = "dict" ∧ ((∃ kvs, H p = some (.dK kvs)) ∨ ∃ kvs, H p = some (.dT kvs))) ∨ (T = "set" ∧ ∃ S n, H p = some (.set S n))
  | _ => False
theorem tyV_is {pins : List (Addr × Obj)} {σ : St} {H : Hp} {s : Shared} {T : String} {x : V} {v : Value} (I : Inv X pins σ H s) (r : RelV x v) (ty : tyV X.K T x H) :
    s.TypeIs v T ∧ ∀ a, v = .ref a → ∃ ob, s.heap.get? a = some ob ∧ ob.dict = none := by
  cases x with
  | str z =>
    obtain ⟨t, rfl⟩ := r
    cases (show T = "str" from ty)
    exact ⟨typeIs_str s z t, fun _ e => nomatch e⟩
  | int i =>
    obtain ⟨t, rfl⟩ := r
    cases (show T = "int" from ty)
    exact ⟨typeIs_int s i t, fun _ e => nomatch e⟩
  | ref p =>
    cases r
    rcases ty with ⟨rfl, xs, hq⟩ | ⟨rfl, o, hk, hc, hd⟩ | ⟨rfl, hk⟩ | ⟨rfl, S, n, hk⟩
    · obtain ⟨its, _, pl, _⟩ := I.list hq
      refine ⟨pl.isList.typeIs, fun a e => ?_⟩
      cases e
      obtain ⟨o, n, e, c, hd, _⟩ := pl
      exact ⟨o, e, hd⟩
    · refine ⟨⟨o, I.kIn p o hk, hc⟩, fun a e => ?_⟩
      cases e
      exact ⟨o, I.kIn _ o hk, hd⟩
    · have z : ∃ o, s.heap.get? p = some o ∧ o.ExactDict := by
        rcases hk with ⟨kvs, hk⟩ | ⟨kvs, hk⟩
        · obtain ⟨_, _, _, _, o, _, _, e, ex, _⟩ := I.hok p _ hk
          exact ⟨o, e, ex⟩
        · obtain ⟨_, _, _, _, o, _, _, e, ex, _⟩ := I.hok p _ hk
          exact ⟨o, e, ex⟩
      obtain ⟨o, e, ex⟩ := z
      refine ⟨⟨o, e, ex.1⟩, fun a e2 => ?_⟩
      cases e2
      exact ⟨o, e, ex.2.1⟩
    · obtain ⟨o, _, _, _, e, ex, _⟩ := I.hok p _ hk
      refine ⟨⟨o, e, ex.1⟩, fun a e2 => ?_⟩
      cases e2
      exact ⟨o, e, ex.2.1⟩
  | _ => exact False.elim ty
def tBM (K : PySem.W.Frag) (T : String) (r : V → List V → Hp → VK → Prop) (to : TE) (t : TA) : TE := fun σ H Q => to σ H fun x H1 => tyV K T x H1 ∧ t σ H1 fun xs H2 => r x xs H2 Q
variable {o e : Expr} {es : List Expr} {to : TE} {t : TA} {name : Str} {apos cpos : Pos} {T id : String} {r : V → List V → Hp → VK → Prop}
theorem pe_bm (pa : PlainAttrs T) (slot : Slot T name id) (hty : typeOf (.builtin id) = pure (.type "method_descriptor")) (hm : MtR X id r) (ho : PE X o to) (ha : PA X (e :: es) t)
    (hbase : attributeBase o name X.env (eval o X.env) = eval o X.env := by rfl)
    (hfew : ((backTo cpos (starEach (e :: es) X.env)).all (fun x => !x.1) && (backToKw cpos (keywordEach [] X.env)).all (fun x => x.1.isSome)
      && decide ((e :: es).length + ([] : List Keyword).length + (if ([] : List Keyword).isEmpty then 0 else 1) < 30)) = true := by rfl)
    (hline : (apos.endLine == cpos.line) = true := by rfl) (hs : starEach (e :: es) X.env = (false, eval e X.env) :: starEach es X.env := by rfl) (hplain : (backTo cpos (starEach es X.env)).any (·.1) = false := by rfl) :
    PE X (.Call (.Attribute o name apos) (e :: es) [] cpos) (tBM X.K T r to t) := by
  intro pins s σ H Q I h
  refine wpAny_Call_method_late hbase hfew hline rfl (thn (ho pins s σ H _ I h) fun v s1 ⟨x, H1, I1, r1, ty, q1⟩ => ?_)
  obtain ⟨h1, h2⟩ := tyV_is I1 r1 ty
  refine ⟨T, id, pa, slot, hty, h1, h2, ?_⟩
  have hA := ha cpos pins s1 σ H1 _ I1 q1
  rw [hs] at hA ⊢
  refine Calls.callWith_builtin (by show (false || (backTo cpos (starEach es X.env)).any (·.1)) = false; rw [hplain] <;> rfl) (Calls.evalArgs_plain ?_)
  exact thn hA fun us s2 ⟨vs, H2, I2, r2, q2⟩ => hm pins s2 σ H2 x vs v us Q I2 r1 r2 q2
/- xs.append(e), list.index on a module's tuple .. are MtR facts of 06m -/
end
end L2

namespace L2
open PySem PySem.Spec PyProof.Rows

def MtM (X : Cx) (id : String) (r : V → List V → Hp → VK → Prop) : Prop :=
  ∀ (pins : List (Addr × Obj)) (s : Shared) (σ : St) (H : Hp) (x : V) (xs : List V) (v : Value) (us : List Value) (Q : VK), Inv X pins σ H s → RelV x v → Vals xs us → r x xs H Q →
    wpAny (model X.prog X.w) X.A (call (.builtin id) (v :: us)) (EP X pins σ Q) X.xe s

theorem Vals.one : ∀ {x : V} {us : List Value}, Vals [x] us → ∃ u, us = [u] ∧ RelV x u
  | _, _, .cons r .nil => ⟨_, rfl, r⟩
theorem Vals.reverse {xs : List V} {us : List Value} (h : Vals xs us) : Vals xs.reverse us.reverse := by
  induction h with
  | nil => exact .nil
  | cons r t ih => rw [List.reverse_cons, List.reverse_cons]; exact Vals.append ih (.cons r .nil)
section
variable {X : Cx} {pins : List (Addr × Obj)} {σ : St} {H : Hp} {s : Shared} {l b : Addr} {xs ys zs : List V}

theorem Inv.lset {its its' : List Value} {n : Nat} {f : Array Value → Array Value} {t' : Nat} (I : Inv X pins σ H s) (hH : H l = some (.lst xs))
    (e : s.heap.get? l = some { cls := .type "list", data := .seq its.toArray n }) (hf : f its.toArray = its'.toArray) (hv : Vals ys its') (hz : ys.length ≤ sizeLine) :
    Inv X pins σ (upd H l (.lst ys)) { s with heap := s.heap.update l (Obj.mapSeq f), toks := t' } := by
  have q := PySem.IsL.update e f
  rw [hf] at q
  refine I.write (x := l) (e := l) (by rw [hH]; exact trivial) (.inl rfl) (fun b' u hb hu => (Heap.get?_update_other s.heap (Obj.mapSeq f) (Ne.symm hb)).trans hu) ⟨_, q⟩ ?_
  exact ⟨hz, its', _, hv, q⟩
theorem Inv.lnew {its : List Value} {t' : Nat} (I : Inv X pins σ H s) (hv : Vals ys its) (hz : ys.length ≤ sizeLine) :
    Inv X pins σ (upd H s.heap.objs.size (.lst ys)) { s with heap := s.heap.push { cls := .type "list", data := .seq its.toArray }, toks := t' } :=
  I.laid (fun _ _ q => Heap.get?_push_of_some _ q) (Nat.le_refl _) ⟨hz, its, 0, hv, Heap.get?_push_size _ rfl⟩
theorem Inv.fresh (I : Inv X pins σ H s) : H s.heap.objs.size = none := I.hok.fresh (Nat.le_refl _)
theorem Inv.lstM (I : Inv X pins σ H s) (hH : H l = some (.lst xs)) : xs.length ≤ sizeLine ∧ ∃ (its : List Value) (n : Nat), Vals xs its ∧ xs.length = its.length ∧ s.heap.get? l = some { cls := .type "list", data := .seq its.toArray n } := by
  obtain ⟨z, its, n, r, e⟩ := I.hok l _ hH
  exact ⟨z, its, n, r, r.length, e⟩

theorem notLongL {n : Nat} (h : n ≤ sizeLine) : Builtin.List.listTooLong n = false := by
  unfold Builtin.List.listTooLong
  exact decide_eq_false (by omega)
end

section
variable {X : Cx}

def rAppend : V → List V → Hp → VK → Prop := fun x vs H Q => ∃ l xs y, x = .ref l ∧ vs = [y] ∧ H l = some (.lst xs) ∧ xs.length < sizeLine ∧ Q .non (upd H l (.lst (xs ++ [y])))
theorem mt_append : MtM X "list.append" rAppend := by
  intro pins s σ H x vs v us Q I rx rv h
  obtain ⟨l, xs, y, rfl, rfl, hH, hz, q⟩ := h
  cases rx
  obtain ⟨u, rfl, ru⟩ := rv.one
  obtain ⟨z, its, n, r, hl, e⟩ := I.lstM hH
  refine call_meets F.slot_list_append ⟨_, e, rfl⟩ F.entry_list_append (F.args_list_append_2 _ _) (PySem.list_append l its.toArray n u (by rw [List.size_toArray]; omega)) ⟨e, ?_⟩
  refine ⟨.non, _, I.lset (its' := its ++ [u]) hH e (by simp) (r.append (.cons ru .nil)) ?_, rfl, q⟩
  rw [List.length_append, List.length_singleton]
  omega

def rExtend : V → List V → Hp → VK → Prop := fun x vs H Q => ∃ l b xs zs, x = .ref l ∧ vs = [.ref b] ∧ H l = some (.lst xs) ∧ H b = some (.lst zs) ∧ xs.length + zs.length ≤ sizeLine ∧ Q .non (upd H l (.lst (xs ++ zs)))
theorem mt_extend : MtM X "list.extend" rExtend := by
  intro pins s σ H x vs v us Q I rx rv h
  obtain ⟨l, b, xs, zs, rfl, rfl, hH, hB, hz, q⟩ := h
  cases rx
  obtain ⟨u, rfl, ru⟩ := rv.one
  cases ru
  obtain ⟨z, its, n, r, hl, e⟩ := I.lstM hH
  obtain ⟨z2, its2, n2, r2, hl2, e2⟩ := I.lstM hB
  have hsz : its.toArray.size + its2.toArray.size ≤ sizeLine := by rw [List.size_toArray, List.size_toArray]; omega
  have hlong : ¬ (!its.toArray.isEmpty && Builtin.List.listTooLong (its.toArray.size + its2.toArray.size)) = true := by
    rw [notLongL hsz, Bool.and_false]
    exact Bool.false_ne_true
  refine call_meets F.slot_list_extend ⟨_, e, rfl⟩ F.entry_list_extend (F.args_list_extend_2 _ _)
    (AutoSeq1.list_extend_list_list_0 l its.toArray n b its2.toArray n2 hlong (by rw [List.size_toArray]; omega) (by omega)) ⟨e, e2, ?_⟩
  refine ⟨.non, _, I.lset (its' := its ++ its2) hH e (by simp) (r.append r2) ?_, rfl, q⟩
  rw [List.length_append]
  omega

def rCat : R2 := fun x y H Q => ∃ l b xs zs, x = .ref l ∧ y = .ref b ∧ H l = some (.lst xs) ∧ H b = some (.lst zs) ∧ xs.length + zs.length ≤ sizeLine ∧ ∀ p, H p = none → Q (.ref p) (upd H p (.lst (xs ++ zs)))
theorem op_cat : OpR X (binaryOp .Add) rCat := by
  intro pins s σ H x y v u Q I rx ry h
  obtain ⟨l, b, xs, zs, rfl, rfl, hH, hB, hz, q⟩ := h
  cases rx
  cases ry
  obtain ⟨z, its, n, r, hl, e⟩ := I.lstM hH
  obtain ⟨z2, its2, n2, r2, hl2, e2⟩ := I.lstM hB
  refine PySem.P.add_list e e2 ?_ (by rw [List.size_toArray, List.size_toArray]; omega)
  have ea : its.toArray ++ its2.toArray = (its ++ its2).toArray := by simp
  rw [ea]
  exact ⟨.ref _, _, I.lnew (t' := s.toks) (r.append r2) (by rw [List.length_append]; omega), rfl, q _ I.fresh⟩
end

section
variable {prog : Program} {w : World} {A : Around} {E : Value → Shared → Prop} {s : Shared}
end

section
variable {X : Cx}
end
end L2

namespace Att
open PySem PySem.W PySem.Calls PyProof.Rows

theorem ints_of_wellAll {P : Params} {h : Heap} : ∀ (ns : List Int) (vs : List Value), WellAll P h vs (ns.map WData.int) → IntsAre vs ns := by
  intro ns
  induction ns with
  | nil =>
    intro vs w
    rw [List.map_nil] at w
    cases w
    exact .nil
  | cons n ns ih =>
    intro vs w
    rw [List.map_cons] at w
    cases w with
    | cons a b =>
      cases a
      exact .cons _ _ (ih _ b)

theorem script_of {l : OpenLaw} {n : Nat} (hn : l.most = some n) {P : Params} {h : Heap} {args : List WData} {vals : List Value}
    (hpre : l.row.toRowW.claim.pre args = true) (hwl : WellAll P h vals args) :
    ∃ a vs ns, vals = [Value.ref a] ∧ args = [WData.list (ns.map WData.int)] ∧ h.get? a = some { cls := .type "list", data := .seq vs.toArray } ∧ IntsAre vs ns ∧ ns.length ≤ n := by
  have hsh : WShape.hasAll [] args [.list .int] = true := (pre_splitW hpre).1
  have hc : l.pre.holds [] { args := args } = true := (pre_splitW hpre).2
  obtain ⟨d, r, rfl, h1, h2⟩ := hasAllW_cons hsh
  obtain rfl := hasAllW_nil h2
  obtain ⟨xs, rfl, h3⟩ := hasW_list h1
  obtain ⟨ns, rfl⟩ := items_int h3
  have hlen : ns.length ≤ n := by
    unfold OpenLaw.pre at hc
    have h4 : (WTm.not (.lt (.lit (.int (n : Int))) (.len (.arg 0)))).holds [] { args := [.list (ns.map .int)] } = true := by
      have h4 := (holds_andW hc).1
      rw [hn] at h4
      exact h4
    have h5 := condW_of h4 (w_not (w_lt w_lit (w_len_list (w_arg rfl))))
    rw [List.length_map] at h5
    refine Nat.le_of_not_lt fun q => ?_
    have q' : (n : Int) < ((ns.length : Nat) : Int) := by omega
    first
      | (rw [decide_eq_true q'] at h5; exact absurd h5 (by decide))
      | (simp at h5; omega)
  cases hwl with
  | cons w1 w2 =>
    cases w2
    cases w1 with
    | list ho hall => exact ⟨_, _, ns, rfl, rfl, ho, ints_of_wellAll ns _ hall, hlen⟩

theorem post_true (l : OpenLaw) (args : List WData) : l.row.toRowW.claim.post args (.bool true) args = true :=
  postW_of (r := l.row.toRowW) (X := (true == true))
    (show WShape.has [] (.bool true) .bool = true by first | rfl | decide | simp [WShape.has, WShape.arms, WShape.armsAll])
    (show (WTm.eq .res (.lit (.bool true))).value [] { args := args, res := some (.bool true), after := args } = some (.bool (true == true)) from w_eq_bool (w_res rfl) w_lit) rfl

theorem attach_call {l : OpenLaw} {n : Nat} {q : Program} {loose : List Str} {XP : (Str → Option Value) → Heap → Prop} {YP : World → Heap → Prop} {d : DefRec}
    (hn : l.most = some n) (hdf : d.params.defaults = [])
    (call : ∀ (w : World) (s₀ s₁ : Shared) (mg mb : Str → Option Value) (fa : Addr) (o : Obj) (pm cd doc : Value) (a : Addr) (vs : List Value) (ns : List Int),
      Ground q loose [] XP w s₀ mg mb s₁.heap → YP w s₁.heap →
      s₁.heap.get? fa = some o → o.data = .func (docDef d.name d.params d.body d.scope pm cd doc) → s₁.heap.CodeRec cd d.name → mg d.name = some (.ref fa) →
      s₁.heap.get? a = some { cls := .type "list", data := .seq vs.toArray } → IntsAre vs ns → ns.length ≤ n → s₁.gens = #[] →
      codeAny (model l.prog w) callerA (.call (.ref fa) ⟨[.ref a], []⟩) (fun r s' => r = .ok (.ret (.bool true)) ∧ OldK s₁.heap s'.heap ∧ s'.os = s₁.os ∧ AllBare s'.gens) s₁) :
    WalkO q loose XP YP l.row.toRowW d [] (fun f vs => PySem.call f vs) := by
  intro w s₀ s₁ mg mb G Y fa o pm cd doc dV kV ho hd hcd hD hmg hg args vals as hpre hlay hrd hwl hlo
  obtain rfl : dV = .none := Dflts.none hD hdf
  obtain rfl : kV = .none := Dflts.noKw hD
  obtain ⟨a, vs, ns, rfl, rfl, hobj, hints, hlen⟩ := script_of hn hpre hwl
  refine enter_call (codeAny_mono (call w s₀ s₁ mg mb fa o pm cd doc a vs ns G Y ho (fd_plain hd) hcd hmg hobj hints hlen hg) fun r s' hq => ?_)
  obtain ⟨rfl, h2, h3, h4⟩ := hq
  exact ⟨.inl ⟨.bool true, .bool true, [], rfl, fun _ => rfl, .bool true, post_true l _, fun _ => ⟨List.Pairwise.nil, fun _ hm => (nomatch hm)⟩⟩, h2, h3, h4⟩

section
variable {prog : Program} {w : World} {A : Around} {E : Value → Shared → Prop} {s : Shared} {K : Frag}

def ledger (h : Heap) (L d : Addr) : List (Addr × Obj) := (List.range h.objs.size).filterMap fun a => if a = L ∨ a = d then none else (h.get? a).map fun o => (a, o)
end
end Att

namespace L2
open PySem PySem.Spec PyProof.Rows

theorem vals_ints : ∀ {vs : List Value} {ns : List Int}, IntsAre vs ns → Vals (ns.map V.int) vs
  | _, _, .nil => .nil
  | _, _, .cons n t h => .cons ⟨t, rfl⟩ (vals_ints h)

def Only (H : Hp) : Prop := ∀ b, H b = none ∨ ∃ o xs, H b = some (.frz o (.lst xs))

theorem law_call {P : Program} {w : World} {K : PySem.W.Frag} {mg mb : Str → Option Value} {CX : CXT} {k : Nat} {fa a : Addr} {fd : FuncData} {x : Str} {sp : Sp} {s₁ : Shared} {vs : List Value} {ns : List Int}
    (KX : K.In s₁.heap) (hns : s₁.heap.Ns mainGlobals mg) (hb : s₁.heap.Ns builtinsNs mb) (hbb : ∀ x : Str, x ≠ "__name__" → mb x = bootBuiltins x) (hlim : s₁.heap.NoLimit) (hg : s₁.gens = #[])
    (ha : s₁.heap.get? a = some { cls := .type "list", data := .seq vs.toArray }) (hi : IntsAre vs ns) (hl : ns.length ≤ sizeLine) (hr : Room k callerA)
    (F : ∀ base : Heap, K.In base → base.Ns mainGlobals mg → FnOk P w K mg base CX k fa fd [x] sp) (hbind : ∀ (s : Shared) (u : Value), BindsTo s fd ⟨[u], []⟩ [(x, u)])
    (hsp : ∀ H : Hp, Only H → SqL K H a (ns.map V.int) → sp [.ref a] H (fun v _ => v = .bl true) fun _ _ _ => False)
    (hCX : ∀ H e s', CX [] H s₁ (fun _ _ _ => False) e s' → False) :
    codeAny (model P w) callerA (.call (.ref fa) ⟨[.ref a], []⟩) (fun r s' => r = .ok (.ret (.bool true)) ∧ OldK s₁.heap s'.heap ∧ s'.os = s₁.os ∧ AllBare s'.gens) s₁ := by
  have rv := vals_ints hi
  have lenV := hi.length
  -- from an abstract heap in which nothing but the script may be tracked
  have core : ∀ H : Hp, Only H → SqL K H a (ns.map V.int) → HOk P w H s₁.heap → (∀ b, H b ≠ none → b = a) → (H a ≠ none → K.lookup a = none) →
      codeAny (model P w) callerA (.call (.ref fa) ⟨[.ref a], []⟩) (fun r s' => r = .ok (.ret (.bool true)) ∧ OldK s₁.heap s'.heap ∧ s'.os = s₁.os ∧ AllBare s'.gens) s₁ := by
    intro H hO hS hok hA hK
    have base_of : ∀ {b : Addr} {o : Obj}, s₁.heap.get? b = some o → H b = none → (hidT s₁.heap H).get? b = some o := fun e n => hidT_get e n
    have noA : ∀ {b : Addr} {o : Obj} {es : Array DictEntry} {ep : Nat}, s₁.heap.get? b = some o → o.data = .dict es ep → H b = none := fun {b o es ep} e d => by
      cases q : H b with
      | none => rfl
      | some u =>
        have e' : b = a := hA b (by rw [q]; simp)
        subst e'
        rw [ha] at e; cases e
        have d' : Data.seq vs.toArray _ = Data.dict es ep := d
        cases d'
    have nsK : ∀ {b : Addr} {m : Str → Option Value}, s₁.heap.Ns b m → (hidT s₁.heap H).Ns b m := fun {b m} ⟨o, es, ep, e, d, r⟩ => ⟨o, es, ep, base_of e (noA e d), d, r⟩
    have hKb : K.In (hidT s₁.heap H) := fun b o e => base_of (KX b o e) (by
      cases q : H b with
      | none => rfl
      | some u =>
        have e' : b = a := hA b (by rw [q]; simp)
        subst e'
        rw [hK (by rw [q]; simp)] at e; cases e)
    have hM : Mod K mg (hidT s₁.heap H) := ⟨hKb, nsK hns, ⟨mb, nsK hb, hbb⟩, let ⟨mc, h1, h2⟩ := hlim; ⟨mc, nsK h1, h2⟩⟩
    have e0 : Env0 P w K mg (hidT s₁.heap H) callerA [] s₁ H := ⟨rfl, hM, fun b o e => of_hidT e, Nat.le_of_eq (hidT_size _ _), trivial, fun b hb => absurd (show b ∈ ([] : List Addr) from hb) (by simp), hok, .of_eq hg⟩
    refine codeAny_mono ((F _ hKb (nsK hns)).run callerA [] s₁ H ⟨[.ref a], []⟩ [.ref a] [.ref a] _ _ hr e0 (hbind s₁ (.ref a)) (.cons rfl .nil) (hsp H hO hS)) fun r s' h => ?_
    cases r with
    | error e => exact (hCX H e s' h).elim
    | ok fl =>
      cases fl with
      | next => exact False.elim h
      | brk => exact False.elim h
      | cont => exact False.elim h
      | ret u =>
        obtain ⟨v, H', os, bare, un, hok', r', q⟩ := h
        have q' : v = .bl true := q
        subst q'
        obtain rfl : u = Value.bool true := r'
        refine ⟨rfl, OldK.of_keep fun b o e => ?_, os, bare⟩
        cases q : H b with
        | none => exact un.keep b o e q (by intro z; exact absurd (show b ∈ ([] : List Addr) from z) (by simp)) (by simp)
        | some u =>
          rcases hO b with z | ⟨ob, xs, z⟩
          · rw [q] at z; cases z
          · have z2 := un.frzs b ob _ z
            obtain ⟨e1, _⟩ := hok b _ z
            obtain ⟨e2, _⟩ := hok' b _ z2
            rw [e] at e1; cases e1
            exact e2
  cases hk : K.lookup a with
  | some o =>
    -- the script is one of the module's own objects
    have e := KX a o hk
    rw [ha] at e
    cases e
    refine core (fun _ => none) (fun _ => .inl rfl) (.inr ⟨_, vs.toArray, _, hk, rfl, rfl, rfl, by rw [List.size_toArray, lenV]; exact hl, by simpa using rv⟩) (fun b u z => by have z' : (none : Option HO) = some u := z; cases z') (fun b z => absurd rfl z) fun z => absurd rfl z
  | none =>
    refine core (fun b => if b = a then some (.frz { cls := .type "list", data := .seq vs.toArray } (.lst (ns.map V.int))) else none) (fun b => ?_) (.inl (.inr ⟨{ cls := .type "list", data := .seq vs.toArray }, if_pos rfl⟩)) (fun b u z => ?_) (fun b z => ?_) fun _ => hk
    · by_cases hb : b = a
      · exact .inr ⟨_, _, if_pos hb⟩
      · exact .inl (if_neg hb)
    · by_cases hb : b = a
      · have z' := (if_pos hb).symm.trans z
        cases z'
        subst hb
        exact ⟨ha, by rw [List.length_map]; exact hl, vs, _, rv, ha⟩
      · have z' := (if_neg hb).symm.trans z
        cases z'
    · by_cases hb : b = a
      · exact hb
      · exact absurd (if_neg hb) z
end L2

namespace L2
open PySem PySem.Spec PyProof.Rows

abbrev KOf {K : PySem.W.Frag} {h : Heap} (_ : K.In h) : PySem.W.Frag := K

theorem walk_of {l : PySem.W.OpenLaw} {n k : Nat} {q : Program} {loose : List Str} {XP : (Str → Option Value) → Heap → Prop} {YP : World → Heap → Prop} {d : DefRec} {K : Params → PySem.W.Frag} {CX : World → CXT} {sp : World → Sp} {x : Str}
    (hn : l.most = some n) (hn2 : n ≤ sizeLine) (hdf : d.params.defaults = []) (hr : Room k callerA)
    (hY : ∀ (w : World) (h : Heap), YP w h → (K w.params).In h)
    (F : ∀ (w : World) (mg : Str → Option Value) (fa : Addr) (h : Heap), (K w.params).In h → h.Ns mainGlobals mg → mg d.name = some (.ref fa) →
      ∃ fd : FuncData, (∀ (s : Shared) (u : Value), BindsTo s fd ⟨[u], []⟩ [(x, u)]) ∧
        ∀ base : Heap, (K w.params).In base → base.Ns mainGlobals mg → FnOk l.prog w (K w.params) mg base (CX w) k fa fd [x] (sp w))
    (hsp : ∀ (w : World) (H : Hp) (a : Addr) (ns : List Int), ns.length ≤ n → Only H → SqL (K w.params) H a (ns.map V.int) → sp w [.ref a] H (fun v _ => v = .bl true) fun _ _ _ => False)
    (hCX : ∀ (w : World) (H : Hp) (s : Shared) (e : Value) (s' : Shared), CX w [] H s (fun _ _ _ => False) e s' → False) :
    PySem.W.WalkO q loose XP YP l.row.toRowW d [] (fun f vs => PySem.call f vs) := by
  refine Att.attach_call hn hdf fun w s₀ s₁ mg mb fa o pm cd doc a vs ns G Y ho hd hcd hmg hobj hints hlen hg => ?_
  have KX := hY w _ Y
  obtain ⟨fd, hb, hF⟩ := F w mg fa _ KX G.T.g hmg
  exact law_call KX G.T.g G.T.b G.T.builtins G.T.nolimit hg hobj hints (Nat.le_trans hlen hn2) hr hF hb (fun H hO hS => hsp w H a ns hlen hO hS) fun H e s' => hCX w H s₁ e s'
end L2

/- THE LAST THEOREM (shape; LID, My.* are yours):
   My.Adr: a structure of the addresses that your layer names (classes, functions); My.Txt K t: a structure (Prop) of the equations over K;
   My.txt_mk : {K} {implicit addresses ..} (e1 : nsIn K mainGlobals "law" = some (some (.ref f))) (e2 : K.lookup f = some ⟨oc, od, .func (fnOf "law" "law" params body scope dV kV doc pm an cdv ct), sl⟩) (e3 : codeIn K cdv "law" = true) .. : ∃ t, My.Txt K t

set_option maxRecDepth 100000 in
set_option maxHeartbeats 0 in
theorem PySem.Challenge.cw_LID_holds : PySem.Challenge.rw_LID.Holds := by
  w_on; o_law; k_head; (case hw => w_witness2)
  k_fill
  refine L2.walk_of (l := PySem.Challenge.rw_LID) (n := 63) (k := 40) (x := "script") (CX := fun w => ..) (sp := fun _ => My.sp_law) rfl (by decide) rfl ⟨rfl, by decide, by decide⟩ (fun w h Y => PySem.W.kIn_of Y) ?F ?S ?C
  case F =>
    intro w mg fa h KX G hmg
    have T : ∃ t, My.Txt (L2.KOf KX) t := by
      dsimp only [L2.KOf]                          -- K must stand as «<heap const> w.params» for k_is
      refine' My.txt_mk ?e1 ?e2 ?e3 ..
      (case e1 => PySem.W.k_is)                    -- in the order: a name -> its address -> its object -> its parts
      (case e2 => PySem.W.k_is)
      ..
    obtain ⟨t, T⟩ := T
    have e0 := hmg.symm.trans (PySem.W.mg_of KX G T.law)
    cases e0                                       -- fa is the law's own address
    exact ⟨_, fun s u => .of_eq rfl, fun base kb nb => My.law_fn T kb nb⟩     -- if «.of_eq rfl» comes too early: refine' ⟨_, ?b, fun base kb nb => My.law_fn T kb nb⟩; exact fun s u => .of_eq rfl
  case S => exact fun w H a ns hl hO hS => ..
  case C => exact ..
(the tactic k_is has no namespace: write k_is) -/

namespace L2
open PySem PySem.Spec PyProof.Rows

def defArgs (s : Stmt) : Arguments := match s with
  | .FunctionDef _ a _ _ _ _ _ _ _ _ => a
  | _ => { posonlyargs := [], args := [], vararg := none, kwonlyargs := [], kw_defaults := [], kwarg := none, defaults := [] }
def defBody (s : Stmt) : List Stmt := match s with
  | .FunctionDef _ _ b _ _ _ _ _ _ _ => b
  | _ => []
def defScope (s : Stmt) : Scope := match s with
  | .FunctionDef _ _ _ _ _ _ sc _ _ _ => sc
  | _ => { kind := .function, names := [], isGenerator := false, isCoroutine := false }

abbrev CX0 : CXT := fun _ _ _ _ _ _ => False
structure Fun (K : PySem.W.Frag) (x qual : Str) (st : Stmt) (f : Addr) (fd : FuncData) : Prop where
  ex : ∃ (oc : Value) (od : Option Addr) (kV doc pm : Value) (an : Option Addr) (cdv ct : Value) (osl : Array (Option Value)),
    fd = PySem.W.fnOf x qual (defArgs st) (defBody st) (defScope st) .none kV doc pm an cdv ct ∧ K.lookup f = some ⟨oc, od, .func fd, osl⟩ ∧ PySem.W.codeIn K cdv qual = true
  kp : PySem.W.keepIn K (.ref f) = true
section
variable {P : Program} {w : World} {K : PySem.W.Frag} {mg : Str → Option Value} {base : Heap}
theorem Fun.binds {x qual : Str} {st : Stmt} {f : Addr} {fd : FuncData} {ps : List Str} (F : Fun K x qual st f fd)
    (h : ∀ (kV doc pm : Value) (an : Option Addr) (cdv ct : Value) (us : List Value), us.length = ps.length → bindArgs (PySem.W.fnOf x qual (defArgs st) (defBody st) (defScope st) .none kV doc pm an cdv ct) ⟨us, []⟩ = pure (ps.zip us)) : Binds K fd ps [] := by
  obtain ⟨oc, od, kV, doc, pm, an, cdv, ct, osl, rfl, lk, hcd⟩ := F.ex
  exact .all (h kV doc pm an cdv ct)
theorem fun_mk {x qual : Str} {st : Stmt} {f : Addr} {oc : Value} {od an : Option Addr} {osl : Array (Option Value)} {kV doc pm cdv ct : Value} (l : K.lookup f = some ⟨oc, od, .func (PySem.W.fnOf x qual (defArgs st) (defBody st) (defScope st) .none kV doc pm an cdv ct), osl⟩)
    (c : PySem.W.codeIn K cdv qual = true) (k : PySem.W.keepIn K (.ref f) = true) : Fun K x qual st f (PySem.W.fnOf x qual (defArgs st) (defBody st) (defScope st) .none kV doc pm an cdv ct) := ⟨⟨oc, od, kV, doc, pm, an, cdv, ct, osl, rfl, l, c⟩, k⟩
end
section
variable {X : Cx}
theorem pv (i : Nat) {x : Str} {pos : Pos} (hN : X.N[i]? = some x := by rfl) (hv : Vis X.env.scope x := by first | exact Or.inl rfl | exact Or.inr (Or.inl rfl) | exact Or.inr (Or.inr rfl)) (hd : (x == ("__debug__" : Str)) = false := by decide)
    (hcd : (x == ("__classdict__" : Str)) = false := by decide) : PE X (.Name x pos) (tVar i) := pe_var hN hv hd hcd
end

def Same (H H' : Hp) : Prop := ∀ b o, H b = some o → H' b = some o
theorem Same.refl (H : Hp) : Same H H := fun _ _ h => h
theorem Same.trans {H H1 H2 : Hp} (a : Same H H1) (b : Same H1 H2) : Same H H2 := fun c o h => b c o (a c o h)
theorem Same.free {H H' : Hp} (e : Same H H') {l : Addr} (h : H' l = Option.none) : H l = Option.none := by
  cases q : H l with
  | none => rfl
  | some o =>
    rw [e l o q] at h
    cases h
theorem Same.seq {K : PySem.W.Frag} {H H' : Hp} {a : Addr} {xs : List V} (e : Same H H') (h : SqL K H a xs) : SqL K H' a xs := by
  rcases h with (h | ⟨o, h⟩) | h
  · exact .inl (.inl (e _ _ h))
  · exact .inl (.inr ⟨o, e _ _ h⟩)
  · exact .inr h

end L2


namespace L2
open PySem PySem.Spec PyProof.Rows

section
variable {κ : Type} [DecidableEq κ]
def valV (kvs : List (κ × V)) (k : κ) : Option V := (kvs.find? fun kv => decide (kv.1 = k)).map (·.2)
def putK (kvs : List (κ × V)) (k : κ) (v : V) : List (κ × V) :=
  if (kvs.any fun kv => decide (kv.1 = k)) = true then kvs.map (fun kv => if kv.1 = k then (kv.1, v) else kv) else kvs ++ [(k, v)]
theorem valV_pos {p : κ × V} {r : List (κ × V)} {k : κ} (e : p.1 = k) : valV (p :: r) k = some p.2 := by simp [valV, List.find?_cons, e]
theorem valV_neg {p : κ × V} {r : List (κ × V)} {k : κ} (e : ¬ p.1 = k) : valV (p :: r) k = valV r k := by simp [valV, List.find?_cons, e]
theorem valV_any (k : κ) : ∀ kvs : List (κ × V), (kvs.any fun kv => decide (kv.1 = k)) = (valV kvs k).isSome
  | [] => rfl
  | p :: r => by
    rw [List.any_cons]
    by_cases e : p.1 = k
    · simp only [valV_pos e, decide_eq_true e, Bool.true_or, Option.isSome_some]
    · rw [valV_neg e, decide_eq_false e, Bool.false_or]; exact valV_any k r
theorem length_putK (kvs : List (κ × V)) (k : κ) (v : V) : (putK kvs k v).length ≤ kvs.length + 1 := by
  unfold putK
  split
  · rw [List.length_map]; omega
  · rw [List.length_append, List.length_cons, List.length_nil]; omega
theorem RelO.isSome_eq {o : Option V} {u : Option Value} (r : RelO o u) : o.isSome = u.isSome := by
  cases o with
  | none => cases u with
    | none => rfl
    | some _ => exact (show False from r).elim
  | some _ => cases u with
    | none => exact (show False from r).elim
    | some _ => rfl
theorem KV.val {kvs : List (κ × V)} {vs : List (κ × Value)} (r : KV kvs vs) (k : κ) : RelO (valV kvs k) (valueAt vs k) := by
  unfold KV at r
  induction r with
  | nil => exact True.intro
  | @cons p q ps qs h t ih =>
    obtain ⟨h1, h2⟩ := h
    by_cases e : p.1 = k
    · have e' : q.1 = k := h1.symm.trans e
      have b : valueAt (q :: qs) k = some q.2 := by simp [valueAt, List.find?_cons, e']
      rw [valV_pos e, b]; exact h2
    · have e' : ¬ q.1 = k := fun z => e (h1.trans z)
      have b : valueAt (q :: qs) k = valueAt qs k := by simp [valueAt, List.find?_cons, e']
      rw [valV_neg e, b]; exact ih
theorem KV.any {kvs : List (κ × V)} {vs : List (κ × Value)} (r : KV kvs vs) (k : κ) : (kvs.any fun kv => decide (kv.1 = k)) = vs.any fun kv => decide (kv.1 = k) := by
  unfold KV at r
  induction r with
  | nil => rfl
  | cons h t ih => rw [List.any_cons, List.any_cons, ih, h.1]
theorem KV.repl {kvs : List (κ × V)} {vs : List (κ × Value)} (r : KV kvs vs) (k : κ) {y : V} {u : Value} (ry : RelV y u) :
    KV (kvs.map fun kv => if kv.1 = k then (kv.1, y) else kv) (vs.map fun kv => if kv.1 = k then (kv.1, u) else kv) := by
  unfold KV at r ⊢
  induction r with
  | nil => exact .nil
  | @cons p q ps qs h t ih =>
    rw [List.map_cons, List.map_cons]
    refine .cons ?_ ih
    obtain ⟨h1, h2⟩ := h
    by_cases e : p.1 = k
    · rw [if_pos e, if_pos (h1.symm.trans e)]; exact ⟨h1, ry⟩
    · rw [if_neg e, if_neg (fun z => e (h1.trans z))]; exact ⟨h1, h2⟩
theorem KV.put {kvs : List (κ × V)} {vs : List (κ × Value)} (r : KV kvs vs) (k : κ) {y : V} {u : Value} (ry : RelV y u) : KV (putK kvs k y) (stored vs k u) := by
  unfold putK stored
  rw [r.any k]
  by_cases e : (vs.any fun kv => decide (kv.1 = k)) = true
  · rw [if_pos e, if_pos e]; exact r.repl k ry
  · rw [if_neg e, if_neg e]; exact Paired.snoc r ⟨rfl, ry⟩
theorem KV.length {kvs : List (κ × V)} {vs : List (κ × Value)} (r : KV kvs vs) : kvs.length = vs.length := Paired.length r
end


theorem kV_is {P : Program} {w : World} {k : Key} {u : Value} (r : RelV (kV k) u) : (mixKind P w).is k u = true := by
  cases k with
  | inl i => obtain ⟨t, e⟩ := (show ∃ t, u = Value.int i t from r); subst e; exact mixKind_int P w i t
  | inr x => obtain ⟨t, e⟩ := (show ∃ t, u = Value.str x t from r); subst e; exact mixKind_str P w x t
theorem kV_inj {a b : Key} (e : kV a = kV b) : a = b := by
  cases a with
  | inl i => cases b with
    | inl j => have e' : V.int i = V.int j := e; injection e' with e'; rw [e']
    | inr y => exact nomatch (show V.int i = V.str y from e)
  | inr x => cases b with
    | inl j => exact nomatch (show V.str x = V.int j from e)
    | inr y => have e' : V.str x = V.str y := e; injection e' with e'; rw [e']
theorem kVs_inj : ∀ {a b : List Key}, a.map kV = b.map kV → a = b
  | [], [], _ => rfl
  | [], _ :: _, e => by simp at e
  | _ :: _, [], e => by simp at e
  | x :: xs, y :: ys, e => by
    rw [List.map_cons, List.map_cons] at e
    injection e with e1 e2
    rw [kV_inj e1, kVs_inj e2]
theorem items_are {P : Program} {w : World} : ∀ {ks : List Key} {us : List Value}, Vals (ks.map kV) us → ItemsAre (mixKind P w) ks us
  | [], _, r => by rw [List.map_nil] at r; cases r; exact .nil
  | k :: ks, _, r => by
    rw [List.map_cons] at r
    cases r with
    | cons h t => exact .cons (kV_is h) (items_are t)

abbrev KT (H : Hp) : List (List Key × V) → List (List Key × Addr × Value) → Prop := Paired fun p q => p.1 = q.1 ∧ H q.2.1 = some (.tup (p.1.map kV)) ∧ RelV p.2 q.2.2
theorem KT.val {H : Hp} {kvs : List (List Key × V)} {xs : List (List Key × Addr × Value)} (r : KT H kvs xs) (k : List Key) : RelO (valV kvs k) ((atKey xs k).map (·.2)) := by
  induction r with
  | nil => exact True.intro
  | @cons p q ps qs h t ih =>
    obtain ⟨h1, _, h2⟩ := h
    by_cases e : p.1 = k
    · have e' : q.1 = k := h1.symm.trans e
      have b : atKey (q :: qs) k = some q.2 := by simp [atKey, List.find?_cons, e']
      rw [valV_pos e, b]; exact h2
    · have e' : ¬ q.1 = k := fun z => e (h1.trans z)
      have b : atKey (q :: qs) k = atKey qs k := by simp [atKey, List.find?_cons, e']
      rw [valV_neg e, b]; exact ih
theorem KT.repl {H : Hp} {kvs : List (List Key × V)} {xs : List (List Key × Addr × Value)} (r : KT H kvs xs) (k : List Key) {y : V} {u : Value} (ry : RelV y u) :
    KT H (kvs.map fun kv => if kv.1 = k then (kv.1, y) else kv) (xs.map (putAt k u)) := by
  induction r with
  | nil => exact .nil
  | @cons p q ps qs h t ih =>
    rw [List.map_cons, List.map_cons]
    refine .cons ?_ ih
    obtain ⟨h1, h2, h3⟩ := h
    unfold putAt
    by_cases e : p.1 = k
    · rw [if_pos e, if_pos (h1.symm.trans e)]; exact ⟨h1, h2, ry⟩
    · rw [if_neg e, if_neg (fun z => e (h1.trans z))]; exact ⟨h1, h2, h3⟩
theorem KT.put {H : Hp} {kvs : List (List Key × V)} {xs : List (List Key × Addr × Value)} (r : KT H kvs xs) (k : List Key) {b : Addr} {y : V} {u : Value} (hb : H b = some (.tup (k.map kV))) (ry : RelV y u) :
    KT H (putK kvs k y) (storedH xs k b u) := by
  have e : (kvs.any fun kv => decide (kv.1 = k)) = (atKey xs k).isSome := by
    rw [valV_any, (r.val k).isSome_eq, Option.isSome_map]
  unfold putK storedH
  rw [e]
  by_cases q : (atKey xs k).isSome = true
  · rw [if_pos q, if_pos q]; exact r.repl k ry
  · rw [if_neg q, if_neg q]; exact Paired.snoc r ⟨rfl, hb, ry⟩
theorem KT.keeps {H H' : Hp} {kvs : List (List Key × V)} {xs : List (List Key × Addr × Value)} (r : KT H kvs xs) (ht : ∀ b ys, H b = some (.tup ys) → H' b = some (.tup ys)) : KT H' kvs xs :=
  Paired.mapP r fun _ _ z => ⟨z.1, ht _ _ z.2.1, z.2.2⟩

section
variable {P : Program} {w : World} {H : Hp} {h : Heap} {a : Addr}
theorem rd_of {u : HO} (ok : HOk P w H h) (e : Rd H a u) : ObjOk P w H h a u := e.ok ok
theorem dk_rd {kvs : List (Key × V)} (ok : HOk P w H h) (e : Rd H a (.dK kvs)) : kvs.length ≤ sizeLine ∧ (a == sysModules) = false ∧ ∃ vs, KV kvs vs ∧ h.DictOf (mixKind P w) a vs :=
  show ObjOk P w H h a (.dK kvs) from rd_of ok e
theorem dk_of {kvs : List (Key × V)} (ok : HOk P w H h) (e : H a = some (.dK kvs)) : kvs.length ≤ sizeLine ∧ (a == sysModules) = false ∧ ∃ vs, KV kvs vs ∧ h.DictOf (mixKind P w) a vs := dk_rd ok (.inl e)
theorem key_of {ks : List Key} (ok : HOk P w H h) (e : H a = some (.tup (ks.map kV))) : (tupleKind (mixKind P w)).is h ks a := by
  obtain ⟨_, its, r, o, h1, h2, n, h3⟩ := (show ObjOk P w H h a (.tup (ks.map kV)) from ok a _ e)
  exact ⟨o, its.toArray, n, h1, h2, h3, by simpa using items_are r⟩
theorem dt_rd {kvs : List (List Key × V)} (ok : HOk P w H h) (e : Rd H a (.dT kvs)) : kvs.length ≤ sizeLine ∧ (a == sysModules) = false ∧
    ∃ xs, KT H kvs xs ∧ h.DictOfH (tupleKind (mixKind P w)) a xs := by
  obtain ⟨z, y, xs, r, o, es, ep, h1, h2, h3, h4, h5⟩ := (show ObjOk P w H h a (.dT kvs) from rd_of ok e)
  refine ⟨z, y, xs, r, o, es, ep, h1, h2, h3, h4, fun x hx => ?_, h5⟩
  have all : ∀ {l : List (List Key × V)} {m : List (List Key × Addr × Value)}, KT H l m → ∀ x ∈ m, (tupleKind (mixKind P w)).is h x.1 x.2.1 := by
    intro l m q
    induction q with
    | nil => intro x hx; exact nomatch hx
    | @cons p q ps qs hq t ih =>
      intro x hx
      rcases List.mem_cons.mp hx with e | hx
      · subst e
        exact key_of ok (by rw [← hq.1]; exact hq.2.1)
      · exact ih x hx
  exact all r x hx
theorem dt_of {kvs : List (List Key × V)} (ok : HOk P w H h) (e : H a = some (.dT kvs)) : kvs.length ≤ sizeLine ∧ (a == sysModules) = false ∧
    ∃ xs, KT H kvs xs ∧ h.DictOfH (tupleKind (mixKind P w)) a xs := dt_rd ok (.inl e)
end

def DGet (H : Hp) (a : Addr) (y : V) (r : Option V) : Prop :=
  (∃ kvs k, Rd H a (.dK kvs) ∧ y = kV k ∧ r = valV kvs k) ∨ ∃ kvs k b, Rd H a (.dT kvs) ∧ y = .ref b ∧ H b = some (.tup (k.map kV)) ∧ r = valV kvs k
def DPut (H : Hp) (a : Addr) (y v : V) (H' : Hp) : Prop :=
  (∃ kvs k, H a = some (.dK kvs) ∧ y = kV k ∧ kvs.length < sizeLine ∧ H' = upd H a (.dK (putK kvs k v))) ∨
  ∃ kvs k b, H a = some (.dT kvs) ∧ y = .ref b ∧ H b = some (.tup (k.map kV)) ∧ kvs.length < sizeLine ∧ H' = upd H a (.dT (putK kvs k v))
theorem DPut.k {H : Hp} {a : Addr} {kvs : List (Key × V)} {k : Key} {v : V} (e : H a = some (.dK kvs)) (hl : kvs.length < sizeLine) : DPut H a (kV k) v (upd H a (.dK (putK kvs k v))) := .inl ⟨kvs, k, e, rfl, hl, rfl⟩
theorem DPut.t {H : Hp} {a b : Addr} {kvs : List (List Key × V)} {k : List Key} {v : V} (e : H a = some (.dT kvs)) (eb : H b = some (.tup (k.map kV))) (hl : kvs.length < sizeLine) :
    DPut H a (.ref b) v (upd H a (.dT (putK kvs k v))) := .inr ⟨kvs, k, b, e, rfl, eb, hl, rfl⟩


section
variable {X : Cx} {pins : List (Addr × Obj)} {σ : St} {H : Hp} {s : Shared} {a : Addr} {y v : V} {u r : Value} {o : Option V} {A : Around} {E : Value → Shared → Prop}

theorem Inv.big (I : Inv X pins σ H s) : sysModules < s.heap.objs.size := by
  have h : mainGlobals < s.heap.objs.size := (I.mod.glob.keeps I.bk).lt
  exact Nat.lt_trans (by decide) h

theorem d_getItem {Q : Value → Shared → Prop} (hu : A.units + 1 < cLine) (I : Inv X pins σ H s) (g : DGet H a y (some v)) (ry : RelV y u) (h : ∀ w' s', Inv X pins σ H s' → RelV v w' → Q w' s') :
    wpAny (model X.prog X.w) A (getItem (.ref a) u) Q E s := by
  rcases g with ⟨kvs, k, e, ey, l⟩ | ⟨kvs, k, b, e, ey, eb, l⟩
  · subst ey
    obtain ⟨z, hd, vs, rel, dd⟩ := dk_rd I.hok e
    obtain ⟨w', hw, rw'⟩ := RelO.some_of (v := v) (o := valueAt vs k) (by rw [l]; exact rel.val k)
    exact wpAny_getItem_of (kV_is ry) dd.mapOf hw (h w' _ (I.tok _) rw')
  · subst ey
    cases (show u = Value.ref b from ry)
    obtain ⟨z, hd, xs, rel, dd⟩ := dt_rd I.hok e
    obtain ⟨w', hw, rw'⟩ := RelO.some_of (v := v) (o := (atKey xs k).map (·.2)) (by rw [l]; exact rel.val k)
    obtain ⟨p, hp, hp2⟩ := Option.map_eq_some_iff.mp hw
    refine wpAny_getItem_heap (tupleKind_room_in1 hu) (key_of I.hok eb) dd hp ?_
    rw [hp2]
    exact h w' _ (I.tok _) rw'
theorem d_in {Q : Value → Shared → Prop} (hu : A.units + 1 < cLine) (I : Inv X pins σ H s) (g : DGet H a y o) (ry : RelV y u) (h : ∀ s', Inv X pins σ H s' → Q (.bool o.isSome) s') :
    wpAny (model X.prog X.w) A (compareOp .In u (.ref a)) Q E s := by
  rcases g with ⟨kvs, k, e, ey, l⟩ | ⟨kvs, k, b, e, ey, eb, l⟩
  · subst ey
    obtain ⟨z, hd, vs, rel, dd⟩ := dk_rd I.hok e
    refine wpAny_in_of (kV_is ry) hd dd.mapOf ?_
    rw [← (rel.val k).isSome_eq, ← l]
    exact h _ (I.tok _)
  · subst ey
    cases (show u = Value.ref b from ry)
    obtain ⟨z, hd, xs, rel, dd⟩ := dt_rd I.hok e
    refine wpAny_in_heap (tupleKind_room_in1 hu) (key_of I.hok eb) hd dd ?_
    have q := (rel.val k).isSome_eq
    rw [Option.isSome_map] at q
    rw [← q, ← l]
    exact h _ (I.tok _)
theorem d_notIn {Q : Value → Shared → Prop} (hu : A.units + 1 < cLine) (I : Inv X pins σ H s) (g : DGet H a y o) (ry : RelV y u) (h : ∀ s', Inv X pins σ H s' → Q (.bool (!o.isSome)) s') :
    wpAny (model X.prog X.w) A (compareOp .NotIn u (.ref a)) Q E s := by
  rcases g with ⟨kvs, k, e, ey, l⟩ | ⟨kvs, k, b, e, ey, eb, l⟩
  · subst ey
    obtain ⟨z, hd, vs, rel, dd⟩ := dk_rd I.hok e
    refine wpAny_notIn_of (kV_is ry) hd dd.mapOf ?_
    rw [← (rel.val k).isSome_eq, ← l]
    exact h _ (I.tok _)
  · subst ey
    cases (show u = Value.ref b from ry)
    obtain ⟨z, hd, xs, rel, dd⟩ := dt_rd I.hok e
    refine wpAny_notIn_heap (tupleKind_room_in1 hu) (key_of I.hok eb) hd dd ?_
    have q := (rel.val k).isSome_eq
    rw [Option.isSome_map] at q
    rw [← q, ← l]
    exact h _ (I.tok _)
theorem d_write {h' : Heap} {t' : Nat} {ob : HO} (I : Inv X pins σ H s) (mu : Mut (H a)) (hs : Heap.SameBut a s.heap h') (he : ∃ q, h'.get? a = some q) (new : ObjOk X.prog X.w (upd H a ob) h' a ob) :
    Inv X pins σ (upd H a ob) { s with heap := h', toks := t' } :=
  I.write (x := a) (e := a) mu (.inl rfl) (fun b q hb z => (hs.2 b hb).trans z) he new
theorem dk_new {P : Program} {w : World} {H' : Hp} {h' : Heap} {kvs : List (Key × V)} {vs : List (Key × Value)} (z : kvs.length ≤ sizeLine) (hd : (a == sysModules) = false) (rel : KV kvs vs) (dd : h'.DictOf (mixKind P w) a vs) :
    ObjOk P w H' h' a (.dK kvs) := ⟨z, hd, vs, rel, dd⟩
theorem d_setItem {H' : Hp} {Q : Unit → Shared → Prop} (hu : A.units + 1 < cLine) (I : Inv X pins σ H s) (g : DPut H a y v H') (ry : RelV y u) (rv : RelV v r) (h : ∀ s', Inv X pins σ H' s' → Q () s') :
    wpAny (model X.prog X.w) A (setItem (.ref a) u r) Q E s := by
  rcases g with ⟨kvs, k, e, ey, l, eH⟩ | ⟨kvs, k, b, e, ey, eb, l, eH⟩
  · subst ey eH
    obtain ⟨z, hd, vs, rel, dd⟩ := dk_of I.hok e
    have hz : vs.length ≤ sizeLine := by rw [← rel.length]; exact z
    have hl : (putK kvs k v).length ≤ sizeLine := by have := length_putK kvs k v; omega
    refine wpAny_setItem_pairs (hsz := hz) (kV_is ry) dd fun h' dd' hs => h _ ?_
    have he : ∃ q, h'.get? a = some q := let ⟨q, _, _, hq, _⟩ := dd'; ⟨q, hq⟩
    exact d_write I (by rw [e]; exact True.intro) hs he (dk_new hl hd (rel.put k rv) dd')
  · subst ey eH
    cases (show u = Value.ref b from ry)
    obtain ⟨z, hd, xs, rel, dd⟩ := dt_of I.hok e
    have hz : xs.length ≤ sizeLine := by rw [← Paired.length rel]; exact z
    have hl : (putK kvs k v).length ≤ sizeLine := by have := length_putK kvs k v; omega
    refine wpAny_setItem_heap (hsz := hz) (tupleKind_room_in1 hu) (key_of I.hok eb) dd fun h' dd' hs => h _ ?_
    obtain ⟨q, es, ep, hq, h2, h3, h4, _, h5⟩ := dd'
    refine d_write I (by rw [e]; exact True.intro) hs ⟨q, hq⟩ ⟨hl, hd, _, (rel.put k eb rv).keeps fun c ys ec => ?_, q, es, ep, hq, h2, h3, h4, h5⟩
    rw [upd_ne (ne_of ec e (fun z => nomatch z))]
    exact ec
end

section
variable {X : Cx} {pins : List (Addr × Obj)} {σ : St} {H : Hp} {s : Shared} {a : Addr} {kvs : List (Key × V)} {k : Key} {u : Value} {A : Around} {E : Value → Shared → Prop}
end


def NoSl (i : Expr) : Prop := ∀ ov iv, subscripted i false ov iv = operate [ov, iv] (getItem ov iv)
theorem subD_of {prog : Program} {w : World} {A : Around} {E : Value → Shared → Prop} {s : Shared} {env : Env} {value slice : Expr} {pos : Pos} {T id : String} {Q : Value → Shared → Prop}
    (hl : typeLookup (.type T) "__getitem__" = pure (some (.builtin id))) (hs : NoSl slice)
    (h : wpAny (model prog w) A (eval value env) (fun o s₁ => wpAny (model prog w) A (eval slice env) (fun i s₂ => s₂.TypeIs o T ∧ wpAny (model prog w) A (getItem o i) Q E s₂) E s₁) E s) :
    wpAny (model prog w) A (eval (.Subscript value slice pos) env) Q E s := by
  refine Subscript_ (wpAny_mono h (fun o s₁ h₁ => wpAny_mono h₁ (fun i s₂ h₂ => ?_) fun _ _ x => x) fun _ _ x => x)
  obtain ⟨hT, h₂⟩ := h₂
  unfold subscriptTail
  refine wpAny_bind ?_
  rw [getitemInPython_of_ne hT.not_modules]
  refine wpAny_bind (wpAny_specialOf hT hl ?_)
  have fin : wpAny (model prog w) A (subscripted slice false o i) (fun r s₃ => wpAny (model prog w) A (letTemporaryGo value o r >>= fun _ => pure r) Q E s₃) E s₂ := by
    rw [hs o i]
    exact wpAny_operating (wpAny_mono h₂ (fun r s₃ h₃ => wpAny_bind (wpAny_letTemporaryGo (wpAny_pure h₃))) fun _ _ x => x)
  first
    | exact wpAny_pure (wpAny_bind fin)
    | exact wpAny_bind (wpAny_pure (wpAny_bind fin))
    | exact wpAny_bind fin

theorem dict_typeIs {X : Cx} {pins : List (Addr × Obj)} {σ : St} {H : Hp} {s : Shared} {a : Addr} {y : V} {o : Option V} (I : Inv X pins σ H s) (g : DGet H a y o) : s.TypeIs (.ref a) "dict" := by
  rcases g with ⟨kvs, k, e, _, _⟩ | ⟨kvs, k, b, e, _, _, _⟩
  · obtain ⟨_, _, vs, _, dd⟩ := dk_rd I.hok e
    exact dd.typeIs
  · obtain ⟨_, _, xs, _, dd⟩ := dt_rd I.hok e
    exact dd.typeIs
def tDGet (td ty : TE) : TE := fun σ H Q => td σ H fun x H1 => ty σ H1 fun y H2 => ∃ a v, x = .ref a ∧ DGet H2 a y (some v) ∧ Q v H2
def tDIn (ty td : TE) : TE := fun σ H Q => ty σ H fun y H1 => td σ H1 fun x H2 => ∃ a o, x = .ref a ∧ DGet H2 a y o ∧ Q (.bl o.isSome) H2
def sDPut (td ty tv : TE) : TS := fun D σ H => tv σ H fun v H1 => td σ H1 fun x H2 => ty σ H2 fun y H3 => ∃ a H4, x = .ref a ∧ DPut H3 a y v H4 ∧ D.nx σ H4
section
variable {X : Cx} {o i e value : Expr} {pos pos' tpos : Pos} {td ty tv : TE}
theorem pe_dget (hu : X.A.units + 1 < cLine) (ho : PE X o td) (hi : PE X i ty) (hs : NoSl i) : PE X (.Subscript o i pos) (tDGet td ty) := by
  intro pins s σ H Q I h
  refine subD_of PySem.F.slot_dict_getitem.lookup hs (thn (ho pins s σ H _ I h) fun u s1 ⟨x, H1, I1, rx, q1⟩ => thn (hi pins s1 σ H1 _ I1 q1) fun iv s2 ⟨y, H2, I2, ry, a, v, ex, g, q2⟩ => ?_)
  subst ex
  obtain rfl : u = Value.ref a := rx
  exact ⟨dict_typeIs I2 g, d_getItem hu I2 g ry fun w' s3 I3 rw' => ⟨v, H2, I3, rw', q2⟩⟩
theorem pc_din (hu : X.A.units + 1 < cLine) (hi : PE X i ty) (ho : PE X o td) : PC X .In i o (tDIn ty td) := by
  intro pins s σ H Q I h
  refine thn (hi pins s σ H _ I h) fun iv s1 ⟨y, H1, I1, ry, q1⟩ => thn (ho pins s1 σ H1 _ I1 q1) fun u s2 ⟨x, H2, I2, rx, a, ov, ex, g, q2⟩ => ?_
  subst ex
  obtain rfl : u = Value.ref a := rx
  exact d_in hu I2 g ry fun s3 I3 => ⟨.bl ov.isSome, H2, I3, rfl, q2⟩
theorem ps_dput (hu : X.A.units + 1 < cLine) (ho : PE X o td) (hi : PE X i ty) (hv : PE X value tv) (hs : swapsWith value (some (.Subscript o i pos')) pos.line X.env = pure false) :
    PS X (.Assign [.Subscript o i pos'] value pos) (sDPut td ty tv) := by
  intro pins s σ H D I h
  refine wpAny_Assign_Subscript (thn (hv pins s σ H _ I h) fun r s1 ⟨v, H1, I1, rv, q1⟩ => thn (ho pins s1 σ H1 _ I1 q1) fun u s2 ⟨x, H2, I2, rx, q2⟩ => thn (hi pins s2 σ H2 _ I2 q2) fun iv s3 ⟨y, H3, I3, ry, a, H4, ex, g, q3⟩ => ?_) hs
  subst ex
  obtain rfl : u = Value.ref a := rx
  exact d_setItem hu I3 g ry rv fun s4 I4 => ⟨σ, H4, I4, q3⟩
end


theorem dt_empty {P : Program} {w : World} {H : Hp} (h : Heap) (hb : sysModules < h.objs.size) : ObjOk P w H (h.push { cls := .type "dict", data := .dict #[] }) h.objs.size (.dT []) :=
  ⟨Nat.zero_le _, beq_eq_false_iff_ne.mpr (Ne.symm (Nat.ne_of_lt hb)), [], .nil, _, #[], 0, Heap.get?_push_size _ rfl, ⟨rfl, rfl, rfl⟩, rfl, rfl, List.nodup_nil⟩
def tDNewT : TE := fun _ H Q => ∀ p, H p = none → Q (.ref p) (upd H p (.dT []))
section
variable {X : Cx} {pos : Pos}
theorem pe_dnewT : PE X (.Dict [] [] pos) tDNewT := fun pins s σ H Q I h =>
  wpAny_Dict_empty ⟨.ref s.heap.objs.size, _, I.laid (a := s.heap.objs.size) (o := .dT []) (t' := s.toks) (fun _ _ q => Heap.get?_push_of_some _ q) (Nat.le_refl _) (dt_empty s.heap I.big), rfl, h _ (I.hok.fresh (Nat.le_refl _))⟩
end

def tPairs : List (TE × TE) → St → Hp → (List (V × V) → Hp → Prop) → Prop
  | [], _, H, Q => Q [] H
  | (tk, tv) :: r, σ, H, Q => tk σ H fun x H1 => tv σ H1 fun y H2 => tPairs r σ H2 fun ps H3 => Q ((x, y) :: ps) H3
abbrev VV : List (V × V) → List (Value × Value) → Prop := Paired fun p q => RelV p.1 q.1 ∧ RelV p.2 q.2
def PPs (X : Cx) (pos : Pos) (keys : List (Option Expr)) (values : List Expr) (trs : List (TE × TE)) : Prop :=
  ∀ (pins : List (Addr × Obj)) (s : Shared) (σ : St) (H : Hp) (Q : List (V × V) → Hp → Prop), Inv X pins σ H s → tPairs trs σ H Q →
    wpAny (model X.prog X.w) X.A (evalPairs (pairTrees keys values X.env pos)) (fun vs s' => ∃ ps H', Inv X pins σ H' s' ∧ VV ps vs ∧ Q ps H') X.xe s
theorem pps_nil {X : Cx} {pos : Pos} : PPs X pos [] [] [] := fun pins s σ H Q I h => pairTrees_nil_walk ⟨[], H, I, .nil, h⟩
theorem pps_cons {X : Cx} {pos : Pos} {k v : Expr} {ks : List (Option Expr)} {vs : List Expr} {tk tv : TE} {trs : List (TE × TE)} (hk : PE X k tk) (hv : PE X v tv) (hr : PPs X pos ks vs trs) :
    PPs X pos (some k :: ks) (v :: vs) ((tk, tv) :: trs) := fun pins s σ H Q I h =>
  pairTrees_cons_walk (thn (hk pins s σ H _ I h) fun u s1 ⟨x, H1, I1, rx, q1⟩ => thn (hv pins s1 σ H1 _ I1 q1) fun w2 s2 ⟨y, H2, I2, ry, q2⟩ =>
    thn (hr pins s2 σ H2 _ I2 q2) fun ws s3 ⟨ps, H3, I3, rel, q3⟩ => ⟨(x, y) :: ps, H3, I3, .cons ⟨rx, ry⟩ rel, q3⟩)

structure M1 (X : Cx) (o : Expr) (m : Str) (apos : Pos) (e : Expr) (cpos : Pos) : Prop where
  base : attributeBase o m X.env (eval o X.env) = eval o X.env
  few : ((backTo cpos (starEach [e] X.env)).all (fun x => !x.1) && (backToKw cpos (keywordEach [] X.env)).all (fun x => x.1.isSome)
    && decide (([e] : List Expr).length + ([] : List Keyword).length + (if ([] : List Keyword).isEmpty then 0 else 1) < 30)) = true
  line : (apos.endLine == cpos.line) = true
  trees : backTo cpos (starEach [e] X.env) = [(false, eval e X.env)]
structure M2 (X : Cx) (o : Expr) (m : Str) (apos : Pos) (e f : Expr) (cpos : Pos) : Prop where
  base : attributeBase o m X.env (eval o X.env) = eval o X.env
  few : ((backTo cpos (starEach [e, f] X.env)).all (fun x => !x.1) && (backToKw cpos (keywordEach [] X.env)).all (fun x => x.1.isSome)
    && decide (([e, f] : List Expr).length + ([] : List Keyword).length + (if ([] : List Keyword).isEmpty then 0 else 1) < 30)) = true
  line : (apos.endLine == cpos.line) = true
  trees : backTo cpos (starEach [e, f] X.env) = [(false, eval e X.env), (false, eval f X.env)]

section
variable {X : Cx} {pins : List (Addr × Obj)} {σ : St} {H : Hp} {s : Shared} {a : Addr} {y d : V} {u r : Value} {o : Option V} {A : Around} {E : Value → Shared → Prop}
end

section
variable {X : Cx} {o e f : Expr} {apos cpos : Pos} {td ty tx : TE}
end

section
variable {X : Cx} {pins : List (Addr × Obj)} {σ : St} {H : Hp} {s : Shared} {a : Addr} {kvs : List (Key × V)} {A : Around} {E : Value → Shared → Prop}
end


section
variable {X : Cx} {pins : List (Addr × Obj)} {σ : St} {H : Hp} {s : Shared} {a : Addr} {y : V} {u : Value} {A : Around} {E : Value → Shared → Prop}
end
end L2

set_option Elab.async false
set_option linter.all false
set_option maxRecDepth 100000
namespace L3
open PySem PySem.Spec L2
open PyProof.Rows hiding St

inductive Rs (α : Type) where
  | ok (a : α) | ex (n : Nat)
def M (α : Type) := Option (Rs α)
def M.ret {α : Type} (a : α) : M α := some (.ok a)
def M.bind {α β : Type} (m : M α) (k : α → M β) : M β := match m with
  | none => none
  | some (.ex n) => some (.ex n)
  | some (.ok a) => k a
def M.stuck {α : Type} : M α := none
def M.raise {α : Type} (n : Nat) : M α := some (.ex n)
instance : Monad M where
  pure := M.ret
  bind := M.bind
@[simp] theorem bind_ret {α β : Type} (a : α) (k : α → M β) : (M.ret a >>= k) = k a := rfl
@[simp] theorem bind_pure' {α β : Type} (a : α) (k : α → M β) : ((pure a : M α) >>= k) = k a := rfl
@[simp] theorem bind_raise {α β : Type} (n : Nat) (k : α → M β) : (M.raise n >>= k) = M.raise n := rfl
@[simp] theorem bind_stuck {α β : Type} (k : α → M β) : ((M.stuck : M α) >>= k) = M.stuck := rfl

theorem M.cs {α : Type} (m : M α) : m = M.stuck ∨ (∃ n, m = M.raise n) ∨ ∃ a, m = M.ret a := by
  match m with
  | none => exact .inl rfl
  | some (.ex n) => exact .inr (.inl ⟨n, rfl⟩)
  | some (.ok a) => exact .inr (.inr ⟨a, rfl⟩)
theorem ret_inj {α : Type} {a b : α} (h : M.ret a = M.ret b) : a = b := by
  have h : some (Rs.ok a) = some (Rs.ok b) := h
  cases h
  rfl
theorem stuck_ne {α : Type} {a : α} (h : M.stuck = M.ret a) : False := by
  have h : none = some (Rs.ok a) := h
  cases h
theorem raise_ne {α : Type} {n : Nat} {a : α} (h : M.raise n = M.ret a) : False := by
  have h : some (Rs.ex n) = some (Rs.ok a) := h
  cases h
theorem bind_ok {α β : Type} {m : M α} {k : α → M β} {r : β} (h : (m >>= k) = M.ret r) : ∃ a, m = M.ret a ∧ k a = M.ret r := by
  rcases m.cs with e | ⟨n, e⟩ | ⟨a, e⟩
  · subst e; exact (stuck_ne h).elim
  · subst e; exact (raise_ne h).elim
  · subst e; exact ⟨a, rfl, h⟩

def IsExc (h : Heap) (ea D : Addr) : Prop := ∃ ox, h.get? ea = some ox ∧ ox.cls = .ref D
def ExO (ea D : Addr) : HO := .ext fun h => IsExc h ea D
inductive D where
  | non | bl (b : Bool) | int (i : Int) | str (x : Str) | raw (v : V) | exc (C : Addr) | scr (l : List Int) | tup (l : List D) | lst (l : List D)
  /-- a dict whose keys are tuples; one whose keys are ints and texts -/
  | dct (ks : List (List Key)) (l : List D) | dci (ks : List Key) (l : List D)
instance : Inhabited D := ⟨.non⟩
def lim : Nat := 4096
theorem lim_lt : lim < sizeLine := by rw [sizeLine_eq]; decide

mutual
def Den (K : PySem.W.Frag) (F : Hp) : D → V → Prop
  | .non, v => v = .non
  | .bl b, v => v = .bl b
  | .int i, v => v = .int i
  | .str x, v => v = .str x ∧ x.length ≤ lim
  | .raw u, v => v = u
  | .exc C, v => ∃ ea, v = .ref ea ∧ F ea = some (ExO ea C)
  | .scr ns, v => ∃ a, v = .ref a ∧ SqL K F a (ns.map V.int) ∧ ns.length ≤ lim
  | .tup ds, v => ∃ a vs, v = .ref a ∧ F a = some (.tup vs) ∧ DenL K F ds vs ∧ ds.length ≤ lim
  | .lst ds, v => ∃ a vs, v = .ref a ∧ F a = some (.lst vs) ∧ DenL K F ds vs ∧ ds.length ≤ lim
  | .dct ks ds, v => ∃ a ob vs, v = .ref a ∧ F a = some (.frz ob (.dT (ks.zip vs))) ∧ DenL K F ds vs ∧ ks.length = ds.length ∧ ds.length ≤ lim
  | .dci ks ds, v => ∃ a ob vs, v = .ref a ∧ F a = some (.frz ob (.dK (ks.zip vs))) ∧ DenL K F ds vs ∧ ks.length = ds.length ∧ ds.length ≤ lim
def DenL (K : PySem.W.Frag) (F : Hp) : List D → List V → Prop
  | [], vs => vs = []
  | d :: ds, vs => ∃ v r, vs = v :: r ∧ Den K F d v ∧ DenL K F ds r
end

theorem Same.rd {H H' : Hp} {a : Addr} {u : HO} (e : Same H H') (h : Rd H a u) : Rd H' a u := by
  rcases h with h | ⟨o, h⟩
  · exact .inl (e _ _ h)
  · exact .inr ⟨o, e _ _ h⟩
theorem Same.tup {K : PySem.W.Frag} {H H' : Hp} {a : Addr} {xs : List V} (e : Same H H') (h : SqT K H a xs) : SqT K H' a xs := by
  rcases h with h | h
  · exact .inl (Same.rd e h)
  · exact .inr h
section
variable {K : PySem.W.Frag} {F F' : Hp}
mutual
theorem Den.mono (e : Same F F') : ∀ {d : D} {v : V}, Den K F d v → Den K F' d v
  | .non, _, h => h
  | .bl _, _, h => h
  | .int _, _, h => h
  | .str _, _, h => h
  | .raw _, _, h => h
  | .exc _, _, ⟨a, h1, h2⟩ => ⟨a, h1, e _ _ h2⟩
  | .scr _, _, ⟨a, h1, h2, h3⟩ => ⟨a, h1, Same.seq e h2, h3⟩
  | .tup _, _, ⟨a, vs, h1, h2, h3, h4⟩ => ⟨a, vs, h1, e _ _ h2, DenL.mono e h3, h4⟩
  | .lst _, _, ⟨a, vs, h1, h2, h3, h4⟩ => ⟨a, vs, h1, e _ _ h2, DenL.mono e h3, h4⟩
  | .dct _ _, _, ⟨a, ob, vs, h1, h2, h3, h4⟩ => ⟨a, ob, vs, h1, e _ _ h2, DenL.mono e h3, h4⟩
  | .dci _ _, _, ⟨a, ob, vs, h1, h2, h3, h4⟩ => ⟨a, ob, vs, h1, e _ _ h2, DenL.mono e h3, h4⟩
theorem DenL.mono (e : Same F F') : ∀ {ds : List D} {vs : List V}, DenL K F ds vs → DenL K F' ds vs
  | [], _, h => h
  | _ :: _, _, ⟨v, r, h1, h2, h3⟩ => ⟨v, r, h1, Den.mono e h2, DenL.mono e h3⟩
end
theorem DenL.nil : DenL K F [] [] := rfl
theorem DenL.cons {d : D} {v : V} {ds : List D} {vs : List V} (h : Den K F d v) (r : DenL K F ds vs) : DenL K F (d :: ds) (v :: vs) := ⟨v, vs, rfl, h, r⟩
theorem DenL.len : ∀ {ds : List D} {vs : List V}, DenL K F ds vs → ds.length = vs.length
  | [], _, h => by cases (show _ = _ from h); rfl
  | _ :: ds, _, ⟨v, r, h1, _, h3⟩ => by subst h1; rw [List.length_cons, List.length_cons, DenL.len h3]
theorem DenL.get : ∀ {ds : List D} {vs : List V} {i : Nat} {d : D}, DenL K F ds vs → ds[i]? = some d → ∃ v, vs[i]? = some v ∧ Den K F d v
  | [], _, _, _, _, e => by simp at e
  | d :: ds, _, 0, _, ⟨v, r, h1, h2, h3⟩, e => by subst h1; simp at e; subst e; exact ⟨v, rfl, h2⟩
  | d :: ds, _, i + 1, _, ⟨v, r, h1, h2, h3⟩, e => by
    subst h1
    obtain ⟨w, e1, e2⟩ := DenL.get (i := i) h3 (by simpa using e)
    exact ⟨w, by simpa using e1, e2⟩
theorem DenL.at : ∀ {ds : List D} {vs : List V} {i : Nat} {v : V}, DenL K F ds vs → vs[i]? = some v → ∃ d, ds[i]? = some d ∧ Den K F d v
  | [], _, _, _, h, e => by cases (show _ = _ from h); simp at e
  | d :: ds, _, 0, _, ⟨v, r, h1, h2, h3⟩, e => by subst h1; simp at e; subst e; exact ⟨d, rfl, h2⟩
  | d :: ds, _, i + 1, _, ⟨v, r, h1, h2, h3⟩, e => by
    subst h1
    obtain ⟨w, e1, e2⟩ := DenL.at (i := i) h3 (by simpa using e)
    exact ⟨w, by simpa using e1, e2⟩
theorem DenL.append : ∀ {ds es : List D} {vs ws : List V}, DenL K F ds vs → DenL K F es ws → DenL K F (ds ++ es) (vs ++ ws)
  | [], _, _, _, h, h' => by cases (show _ = _ from h); exact h'
  | d :: ds, _, _, _, ⟨v, r, h1, h2, h3⟩, h' => by subst h1; exact ⟨v, _, rfl, h2, DenL.append h3 h'⟩
theorem DenL.take : ∀ {ds : List D} {vs : List V} (n : Nat), DenL K F ds vs → DenL K F (ds.take n) (vs.take n)
  | _, _, 0, _ => by simp [List.take]; rfl
  | [], _, _ + 1, h => by cases (show _ = _ from h); rfl
  | d :: ds, _, n + 1, ⟨v, r, h1, h2, h3⟩ => by subst h1; exact ⟨v, _, rfl, h2, DenL.take n h3⟩
theorem DenL.drop : ∀ {ds : List D} {vs : List V} (n : Nat), DenL K F ds vs → DenL K F (ds.drop n) (vs.drop n)
  | _, _, 0, h => by simpa using h
  | [], _, _ + 1, h => by cases (show _ = _ from h); rfl
  | d :: ds, _, n + 1, ⟨v, r, h1, h2, h3⟩ => by subst h1; exact DenL.drop n h3
theorem DenL.reverse : ∀ {ds : List D} {vs : List V}, DenL K F ds vs → DenL K F ds.reverse vs.reverse
  | [], _, h => by cases (show _ = _ from h); rfl
  | d :: ds, _, ⟨v, r, h1, h2, h3⟩ => by
    subst h1
    rw [List.reverse_cons, List.reverse_cons]
    exact DenL.append (DenL.reverse h3) (.cons h2 .nil)
theorem DenL.ints (ns : List Int) : DenL K F (ns.map D.int) (ns.map V.int) := by
  induction ns with
  | nil => rfl
  | cons n ns ih => exact .cons rfl ih
end

structure Ext (F H F' H' : Hp) : Prop where
  hh : Same H H'
  ff : Same F F'
  fh : Same F' H'
  new : ∀ a, H a ≠ none → F' a = F a ∨ ∃ ts, H a = some (.tup ts)
theorem Ext.old {F H F' H' : Hp} (e : Ext F H F' H') {a : Addr} {o : HO} (h : H a = some o) (hn : ∀ ts, o ≠ .tup ts) : F' a = F a := by
  rcases e.new a (by rw [h]; exact fun z => nomatch z) with q | ⟨ts, q⟩
  · exact q
  · rw [h] at q; cases q; exact absurd rfl (hn ts)
theorem Ext.refl {F H : Hp} (h : Same F H) : Ext F H F H := ⟨Same.refl _, Same.refl _, h, fun _ _ => .inl rfl⟩
theorem Ext.trans {F H F' H' F'' H'' : Hp} (a : Ext F H F' H') (b : Ext F' H' F'' H'') : Ext F H F'' H'' :=
  ⟨a.hh.trans b.hh, a.ff.trans b.ff, b.fh, fun c hc => by
    have : H' c ≠ none := by
      cases q : H c with
      | none => exact absurd q hc
      | some o => rw [a.hh c o q]; exact fun z => nomatch z
    rcases a.new c hc with p | p
    · rcases b.new c this with q | ⟨ts, q⟩
      · exact .inl (q.trans p)
      · cases z : H c with
        | none => exact absurd z hc
        | some o =>
          rw [a.hh c o z] at q
          exact .inr ⟨ts, q⟩
    · exact .inr p⟩
theorem Ext.lay {F H : Hp} {a : Addr} {o : HO} (h : Same F H) (n : H a = none) : Ext F H (upd F a o) (upd H a o) := by
  have nf : F a = none := Same.free h n
  refine ⟨fun b u e => ?_, fun b u e => ?_, fun b u e => ?_, fun b hb => ?_⟩
  · rw [upd_ne (ne_of_none e n)]; exact e
  · rw [upd_ne (ne_of_none e nf)]; exact e
  · by_cases q : b = a
    · subst q; rw [upd_same] at e ⊢; exact e
    · rw [upd_ne q] at e ⊢; exact h b u e
  · exact .inl (upd_ne fun z => hb (by rw [z]; exact n))
theorem Ext.free {F H : Hp} {a : Addr} {o : HO} (h : Same F H) (n : H a = none) : Ext F H F (upd H a o) :=
  ⟨fun b u e => by rw [upd_ne (ne_of_none e n)]; exact e, Same.refl _, fun b u e => by rw [upd_ne (ne_of_none (h b u e) n)]; exact h b u e, fun _ _ => .inl rfl⟩
theorem Ext.tup {F H : Hp} {a : Addr} {ts : List V} (h : Same F H) (e : H a = some (.tup ts)) : Ext F H (upd F a (.tup ts)) H := by
  refine ⟨Same.refl _, fun b u q => ?_, fun b u q => ?_, fun b hb => ?_⟩
  · by_cases z : b = a
    · subst z; rw [upd_same, ← e]; exact h b u q
    · rw [upd_ne z]; exact q
  · by_cases z : b = a
    · subst z; rw [upd_same] at q; rw [e]; exact q
    · rw [upd_ne z] at q; exact h b u q
  · by_cases z : b = a
    · subst z; exact .inr ⟨ts, e⟩
    · exact .inl (upd_ne z)

def WP (K : PySem.W.Frag) (Xw : Nat → Hp → Prop) (F H : Hp) (m : M D) (Q : VK) : Prop :=
  match m with
  | none => False
  | some (.ok d) => ∀ v H' F', Ext F H F' H' → Den K F' d v → Q v H'
  | some (.ex n) => ∀ F' H', Ext F H F' H' → Xw n H'
def WPL (K : PySem.W.Frag) (Xw : Nat → Hp → Prop) (F H : Hp) (m : M (List D)) (Q : List V → Hp → Prop) : Prop :=
  match m with
  | none => False
  | some (.ok ds) => ∀ vs H' F', Ext F H F' H' → DenL K F' ds vs → Q vs H'
  | some (.ex n) => ∀ F' H', Ext F H F' H' → Xw n H'
def WPB (Xw : Nat → Hp → Prop) (F H : Hp) (m : M Bool) (Q : Bool → Hp → Prop) : Prop :=
  match m with
  | none => False
  | some (.ok b) => ∀ H' F', Ext F H F' H' → Q b H'
  | some (.ex n) => ∀ F' H', Ext F H F' H' → Xw n H'
section
variable {K : PySem.W.Frag} {Xw : Nat → Hp → Prop} {F F' H H' : Hp} {Q : VK}
theorem WP.ext {m : M D} (e : Ext F H F' H') (h : WP K Xw F H m Q) : WP K Xw F' H' m Q := by
  match m, h with
  | none, h => exact h
  | some (.ok d), h => exact fun v H2 F2 e2 q => h v H2 F2 (e.trans e2) q
  | some (.ex n), h => exact fun F2 H2 e2 => h F2 H2 (e.trans e2)
theorem WPL.ext {m : M (List D)} {Q : List V → Hp → Prop} (e : Ext F H F' H') (h : WPL K Xw F H m Q) : WPL K Xw F' H' m Q := by
  match m, h with
  | none, h => exact h
  | some (.ok d), h => exact fun v H2 F2 e2 q => h v H2 F2 (e.trans e2) q
  | some (.ex n), h => exact fun F2 H2 e2 => h F2 H2 (e.trans e2)
theorem WPB.ext {m : M Bool} {Q : Bool → Hp → Prop} (e : Ext F H F' H') (h : WPB Xw F H m Q) : WPB Xw F' H' m Q := by
  match m, h with
  | none, h => exact h
  | some (.ok d), h => exact fun H2 F2 e2 => h H2 F2 (e.trans e2)
  | some (.ex n), h => exact fun F2 H2 e2 => h F2 H2 (e.trans e2)
theorem WP.fin {d : D} {v : V} (h : WP K Xw F H (M.ret d) Q) (e : Ext F H F' H') (q : Den K F' d v) : Q v H' := h v H' F' e q
theorem WP.now {d : D} {v : V} (h : WP K Xw F H (M.ret d) Q) (s : Same F H) (q : Den K F d v) : Q v H := h v H F (Ext.refl s) q
theorem WP.bind {m : M D} {k : D → M D} (h : WP K Xw F H (m >>= k) Q) : WP K Xw F H m fun v H1 => ∃ F1 d, Ext F H F1 H1 ∧ Den K F1 d v ∧ WP K Xw F1 H1 (k d) Q := by
  match m, h with
  | none, h => exact h
  | some (.ok d), h => exact fun v H2 F2 e2 q => ⟨F2, d, e2, q, WP.ext e2 (show WP K Xw F H (k d) Q from h)⟩
  | some (.ex n), h => exact h
theorem WP.bindL {m : M (List D)} {k : List D → M D} (h : WP K Xw F H (m >>= k) Q) : WPL K Xw F H m fun vs H1 => ∃ F1 ds, Ext F H F1 H1 ∧ DenL K F1 ds vs ∧ WP K Xw F1 H1 (k ds) Q := by
  match m, h with
  | none, h => exact h
  | some (.ok d), h => exact fun v H2 F2 e2 q => ⟨F2, d, e2, q, WP.ext e2 (show WP K Xw F H (k d) Q from h)⟩
  | some (.ex n), h => exact h
theorem WP.bindB {m : M Bool} {k : Bool → M D} (h : WP K Xw F H (m >>= k) Q) : WPB Xw F H m fun b H1 => ∃ F1, Ext F H F1 H1 ∧ WP K Xw F1 H1 (k b) Q := by
  match m, h with
  | none, h => exact h
  | some (.ok d), h => exact fun H2 F2 e2 => ⟨F2, e2, WP.ext e2 (show WP K Xw F H (k d) Q from h)⟩
  | some (.ex n), h => exact h
theorem WPB.bind {m : M D} {k : D → M Bool} {Q : Bool → Hp → Prop} (h : WPB Xw F H (m >>= k) Q) : WP K Xw F H m fun v H1 => ∃ F1 d, Ext F H F1 H1 ∧ Den K F1 d v ∧ WPB Xw F1 H1 (k d) Q := by
  match m, h with
  | none, h => exact h
  | some (.ok d), h => exact fun v H2 F2 e2 q => ⟨F2, d, e2, q, WPB.ext e2 (show WPB Xw F H (k d) Q from h)⟩
  | some (.ex n), h => exact h
theorem WPB.bindB {m : M Bool} {k : Bool → M Bool} {Q : Bool → Hp → Prop} (h : WPB Xw F H (m >>= k) Q) : WPB Xw F H m fun b H1 => ∃ F1, Ext F H F1 H1 ∧ WPB Xw F1 H1 (k b) Q := by
  match m, h with
  | none, h => exact h
  | some (.ok d), h => exact fun H2 F2 e2 => ⟨F2, e2, WPB.ext e2 (show WPB Xw F H (k d) Q from h)⟩
  | some (.ex n), h => exact h
theorem WPL.bind {m : M D} {k : D → M (List D)} {Q : List V → Hp → Prop} (h : WPL K Xw F H (m >>= k) Q) : WP K Xw F H m fun v H1 => ∃ F1 d, Ext F H F1 H1 ∧ Den K F1 d v ∧ WPL K Xw F1 H1 (k d) Q := by
  match m, h with
  | none, h => exact h
  | some (.ok d), h => exact fun v H2 F2 e2 q => ⟨F2, d, e2, q, WPL.ext e2 (show WPL K Xw F H (k d) Q from h)⟩
  | some (.ex n), h => exact h
theorem WPL.bindL {m : M (List D)} {k : List D → M (List D)} {Q : List V → Hp → Prop} (h : WPL K Xw F H (m >>= k) Q) : WPL K Xw F H m fun vs H1 => ∃ F1 ds, Ext F H F1 H1 ∧ DenL K F1 ds vs ∧ WPL K Xw F1 H1 (k ds) Q := by
  match m, h with
  | none, h => exact h
  | some (.ok d), h => exact fun v H2 F2 e2 q => ⟨F2, d, e2, q, WPL.ext e2 (show WPL K Xw F H (k d) Q from h)⟩
  | some (.ex n), h => exact h
theorem WP.mono {m : M D} {Q' : VK} (h : WP K Xw F H m Q) (k : ∀ v H', Q v H' → Q' v H') : WP K Xw F H m Q' := by
  match m, h with
  | none, h => exact h
  | some (.ok d), h => exact fun v H2 F2 e2 q => k _ _ (h v H2 F2 e2 q)
  | some (.ex n), h => exact h
theorem WPL.mono {m : M (List D)} {Q Q' : List V → Hp → Prop} (h : WPL K Xw F H m Q) (k : ∀ v H', Q v H' → Q' v H') : WPL K Xw F H m Q' := by
  match m, h with
  | none, h => exact h
  | some (.ok d), h => exact fun v H2 F2 e2 q => k _ _ (h v H2 F2 e2 q)
  | some (.ex n), h => exact h
theorem WPB.mono {m : M Bool} {Q Q' : Bool → Hp → Prop} (h : WPB Xw F H m Q) (k : ∀ v H', Q v H' → Q' v H') : WPB Xw F H m Q' := by
  match m, h with
  | none, h => exact h
  | some (.ok d), h => exact fun H2 F2 e2 => k _ _ (h H2 F2 e2)
  | some (.ex n), h => exact h
end

inductive C where
  | lst (l : List D) | dct (ks : List (List Key)) (l : List D) | dci (ks : List Key) (l : List D)
def C.d : C → D
  | .lst ds => .lst ds
  | .dct ks ds => .dct ks ds
  | .dci ks ds => .dci ks ds
inductive Sl where
  | fz (d : D) | ow (c : C)
abbrev Rho := List (Option Sl)
def DenC (K : PySem.W.Frag) (F : Hp) : C → HO → Prop
  | .lst ds, o => ∃ vs, o = .lst vs ∧ DenL K F ds vs ∧ ds.length ≤ lim
  | .dct ks ds, o => ∃ vs, o = .dT (ks.zip vs) ∧ DenL K F ds vs ∧ ks.length = ds.length ∧ ds.length ≤ lim
  | .dci ks ds, o => ∃ vs, o = .dK (ks.zip vs) ∧ DenL K F ds vs ∧ ks.length = ds.length ∧ ds.length ≤ lim
theorem DenC.mono {K : PySem.W.Frag} {F F' : Hp} (e : Same F F') : ∀ {c : C} {o : HO}, DenC K F c o → DenC K F' c o
  | .lst _, _, ⟨vs, h1, h2, h3⟩ => ⟨vs, h1, DenL.mono e h2, h3⟩
  | .dct _ _, _, ⟨vs, h1, h2, h3⟩ => ⟨vs, h1, DenL.mono e h2, h3⟩
  | .dci _ _, _, ⟨vs, h1, h2, h3⟩ => ⟨vs, h1, DenL.mono e h2, h3⟩
theorem DenC.notup {K : PySem.W.Frag} {F : Hp} : ∀ {c : C} {o : HO}, DenC K F c o → ∀ ts, o ≠ .tup ts
  | .lst _, _, ⟨_, h1, _⟩, ts, z => by rw [h1] at z; cases z
  | .dct _ _, _, ⟨_, h1, _⟩, ts, z => by rw [h1] at z; cases z
  | .dci _ _, _, ⟨_, h1, _⟩, ts, z => by rw [h1] at z; cases z
def frzO (ob : Obj) : HO → HO
  | .dT kvs => .frz ob (.dT kvs)
  | .dK kvs => .frz ob (.dK kvs)
  | o => o
theorem DenC.den {K : PySem.W.Frag} {F F' : Hp} {a : Addr} {ob : Obj} : ∀ {c : C} {o : HO}, DenC K F c o → Same F F' → F' a = some (frzO ob o) → Den K F' c.d (.ref a)
  | .lst _, _, ⟨vs, h1, h2, h3⟩, e, q => by subst h1; exact ⟨a, vs, rfl, q, DenL.mono e h2, h3⟩
  | .dct _ _, _, ⟨vs, h1, h2, h3⟩, e, q => by subst h1; exact ⟨a, ob, vs, rfl, q, DenL.mono e h2, h3⟩
  | .dci _ _, _, ⟨vs, h1, h2, h3⟩, e, q => by subst h1; exact ⟨a, ob, vs, rfl, q, DenL.mono e h2, h3⟩
def DenO (K : PySem.W.Frag) (F H : Hp) : Sl → V → Prop
  | .fz d, v => Den K F d v
  | .ow c, v => ∃ a o, v = .ref a ∧ H a = some o ∧ F a = none ∧ DenC K F c o
structure StE (K : PySem.W.Frag) (F H : Hp) (σ : St) (ρ : Rho) : Prop where
  fh : Same F H
  den : ∀ (i : Nat) (sl : Sl), ρ[i]? = some (some sl) → ∃ v, σ[i]? = some (some v) ∧ DenO K F H sl v
theorem DenO.ext {K : PySem.W.Frag} {F H F' H' : Hp} (e : Ext F H F' H') : ∀ {sl : Sl} {v : V}, DenO K F H sl v → DenO K F' H' sl v
  | .fz _, _, h => Den.mono e.ff h
  | .ow _, _, ⟨a, o, h1, h2, h3, h4⟩ => ⟨a, o, h1, e.hh _ _ h2, by rw [e.old h2 h4.notup]; exact h3, DenC.mono e.ff h4⟩
theorem StE.ext {K : PySem.W.Frag} {F H F' H' : Hp} {σ : St} {ρ : Rho} (s : StE K F H σ ρ) (e : Ext F H F' H') : StE K F' H' σ ρ :=
  ⟨e.fh, fun i sl q => let ⟨v, h1, h2⟩ := s.den i sl q; ⟨v, h1, h2.ext e⟩⟩

abbrev DE := Rho → M D
abbrev DT := Rho → M Bool
abbrev DA := Rho → M (List D)
def tD (K : PySem.W.Frag) (Xw : Nat → Hp → Prop) (δ : DE) : TE := fun σ H Q => ∃ F ρ, StE K F H σ ρ ∧ WP K Xw F H (δ ρ) Q
def tDT (K : PySem.W.Frag) (Xw : Nat → Hp → Prop) (δ : DT) : TT := fun σ H Q => ∃ F ρ, StE K F H σ ρ ∧ WPB Xw F H (δ ρ) Q
def tDA (K : PySem.W.Frag) (Xw : Nat → Hp → Prop) (δ : DA) : TA := fun σ H Q => ∃ F ρ, StE K F H σ ρ ∧ WPL K Xw F H (δ ρ) Q
def PD (X : Cx) (Xw : Nat → Hp → Prop) (e : Expr) (δ : DE) : Prop := PE X e (tD X.K Xw δ)
def PDT (X : Cx) (Xw : Nat → Hp → Prop) (e : Expr) (δ : DT) : Prop := PT X e (tDT X.K Xw δ)
def PDA (X : Cx) (Xw : Nat → Hp → Prop) (es : List Expr) (δ : DA) : Prop := PA X es (tDA X.K Xw δ)
theorem PE.weak {X : Cx} {e : Expr} {t t' : TE} (h : PE X e t) (k : ∀ σ H Q, t' σ H Q → t σ H Q) : PE X e t' := fun pins s σ H Q I w => h pins s σ H Q I (k σ H Q w)
theorem PT.weak {X : Cx} {e : Expr} {t t' : TT} (h : PT X e t) (k : ∀ σ H Q, t' σ H Q → t σ H Q) : PT X e t' := fun pins s σ H Q I w => h pins s σ H Q I (k σ H Q w)
theorem PA.weak {X : Cx} {e : List Expr} {t t' : TA} (h : PA X e t) (k : ∀ σ H Q, t' σ H Q → t σ H Q) : PA X e t' := fun pos pins s σ H Q I w => h pos pins s σ H Q I (k σ H Q w)

def dV (i : Nat) : DE := fun ρ => match ρ[i]? with
  | some (some (.fz d)) => M.ret d
  | _ => M.stuck
def dC (d : D) : DE := fun _ => M.ret d
def d1 (g : D → M D) (a : DE) : DE := fun ρ => a ρ >>= g
def d2 (g : D → D → M D) (a b : DE) : DE := fun ρ => a ρ >>= fun x => b ρ >>= fun y => g x y
def aN : DA := fun _ => M.ret []
def aC (a : DE) (r : DA) : DA := fun ρ => a ρ >>= fun x => r ρ >>= fun xs => M.ret (x :: xs)
def dA (g : List D → M D) (a : DA) : DE := fun ρ => a ρ >>= g
def blM : D → M Bool
  | .bl b => M.ret b
  | _ => M.stuck
def tB' (a : DE) : DT := fun ρ => a ρ >>= blM
def dOr (a b : DT) : DT := fun ρ => a ρ >>= fun x => if x then M.ret true else b ρ
def dNot (a : DT) : DT := fun ρ => a ρ >>= fun x => M.ret (!x)
def dIf (c : DT) (a b : DE) : DE := fun ρ => c ρ >>= fun x => if x then a ρ else b ρ
def dAndV (a b : DE) : DE := fun ρ => a ρ >>= fun x => blM x >>= fun c => if c then b ρ else M.ret (.bl false)
def dOrV (a b : DE) : DE := fun ρ => a ρ >>= fun x => blM x >>= fun c => if c then M.ret (.bl true) else b ρ
def dNotV (a : DE) : DE := fun ρ => a ρ >>= fun x => blM x >>= fun c => M.ret (.bl (!c))

section
variable {X : Cx} {Xw : Nat → Hp → Prop} {a b : Expr} {δa δb : DE} {pos : Pos}
theorem pd_var {i : Nat} {x : Str} (h : PE X (.Name x pos) (tVar i)) : PD X Xw (.Name x pos) (dV i) := PE.weak h fun σ H Q ⟨F, ρ, s, w⟩ => by
  unfold dV at w
  split at w
  · rename_i d e
    obtain ⟨v, h1, h2⟩ := s.den i _ e
    exact ⟨v, h1, WP.now w s.fh h2⟩
  · exact w.elim
theorem pd_const {e : Expr} {d : D} {v : V} (h : PE X e (tC v)) (hd : ∀ F, Den X.K F d v) : PD X Xw e (dC d) := PE.weak h fun σ H Q ⟨F, ρ, s, w⟩ => WP.now w s.fh (hd F)
theorem pd_int {i j} : PD X Xw (.Constant (.int i) j pos) (dC (.int i)) := pd_const pe_int fun _ => rfl
theorem pd_bl {i j} : PD X Xw (.Constant (.bool i) j pos) (dC (.bl i)) := pd_const pe_bl fun _ => rfl
theorem pd_non {j} : PD X Xw (.Constant .none j pos) (dC .non) := pd_const pe_non fun _ => rfl
theorem pd_str {x j} (h : x.length ≤ lim := by decide) : PD X Xw (.Constant (.str x) j pos) (dC (.str x)) := pd_const pe_str fun _ => ⟨rfl, h⟩
def OpD (K : PySem.W.Frag) (r : R2) (g : D → D → M D) : Prop := ∀ (Xw : Nat → Hp → Prop) (F H : Hp) (x y : V) (dx dy : D) (Q : VK), Same F H → Den K F dx x → Den K F dy y → WP K Xw F H (g dx dy) Q → r x y H Q
theorem tOp_of {r : R2} {g : D → D → M D} (hg : OpD X.K r g) : ∀ σ H Q, tD X.K Xw (d2 g δa δb) σ H Q → tOp r (tD X.K Xw δa) (tD X.K Xw δb) σ H Q := fun σ H Q ⟨F, ρ, s, w⟩ => by
  refine ⟨F, ρ, s, WP.mono (WP.bind w) fun v H1 ⟨F1, d, e1, q1, w1⟩ => ?_⟩
  refine ⟨F1, ρ, s.ext e1, WP.mono (WP.bind w1) fun u H2 ⟨F2, d', e2, q2, w2⟩ => ?_⟩
  exact hg Xw F2 H2 v u d d' Q e2.fh (Den.mono e2.ff q1) q2 w2
theorem pd_op {op : Operator} {r : R2} {g : D → D → M D} (ho : OpR X (binaryOp op) r) (hg : OpD X.K r g) (ha : PD X Xw a δa) (hb : PD X Xw b δb) : PD X Xw (.BinOp a op b pos) (d2 g δa δb) :=
  PE.weak (pe_op ho ha hb) (tOp_of hg)
theorem pd_cmp {op : CmpOp} {r : R2} {g : D → D → M D} (ho : OpR X (compareOp op) r) (hg : OpD X.K r g) (ha : PD X Xw a δa) (hb : PD X Xw b δb) (hm : behindInMarks op b = false := by first | exact nomark _ | rfl) : PD X Xw (.Compare a [op] [b] pos) (d2 g δa δb) :=
  PE.weak (pe_cmpR ho ha hb hm) (tOp_of hg)
theorem pt_cmp' {op : CmpOp} {r : R2} {g : D → D → M D} (ho : OpR X (compareOp op) r) (hg : OpD X.K r g) (ha : PD X Xw a δa) (hb : PD X Xw b δb) (hm : behindInMarks op b = false := by first | exact nomark _ | rfl) : PDT X Xw (.Compare a [op] [b] pos) (tB' (d2 g δa δb)) :=
  PT.weak (pt_cmpR ho ha hb hm) fun σ H Q ⟨F, ρ, s, w⟩ => by
    refine tOp_of hg σ H _ ⟨F, ρ, s, WP.mono (WPB.bind w) fun v H1 ⟨F1, d, e1, q1, w1⟩ => ?_⟩
    cases d with
    | bl k => exact ⟨k, q1, w1 _ _ (Ext.refl e1.fh)⟩
    | _ => exact w1.elim
theorem pd_ix {r : R2} {g : D → D → M D} (hr : IxR X r) (hg : OpD X.K r g) (ha : PD X Xw a δa) (hb : PD X Xw b δb) (hs : PlainIx b := by intro _ _; rfl) : PD X Xw (.Subscript a b pos) (d2 g δa δb) :=
  PE.weak (pe_ix hr ha hb hs) (tOp_of hg)
theorem pda_nil : PDA X Xw [] aN := PA.weak pa_nil fun σ H Q ⟨F, ρ, s, w⟩ => w [] H F (Ext.refl s.fh) rfl
theorem pda_cons {es : List Expr} {δs : DA} (ha : PD X Xw a δa) (hr : PDA X Xw es δs) (hs : starEach (a :: es) X.env = (false, eval a X.env) :: starEach es X.env := by rfl) : PDA X Xw (a :: es) (aC δa δs) :=
  PA.weak (pa_cons ha hr hs) fun σ H Q ⟨F, ρ, s, w⟩ => by
    refine ⟨F, ρ, s, WP.mono (WPL.bind w) fun v H1 ⟨F1, d, e1, q1, w1⟩ => ?_⟩
    refine ⟨F1, ρ, s.ext e1, WPL.mono (WPL.bindL w1) fun vs H2 ⟨F2, ds, e2, q2, w2⟩ => ?_⟩
    exact w2 _ _ _ (Ext.refl e2.fh) (.cons (Den.mono e2.ff q1) q2)
def mkTup (ds : List D) : M D := if ds.length ≤ lim then M.ret (.tup ds) else M.stuck
def mkLst (ds : List D) : M D := if ds.length ≤ lim then M.ret (.lst ds) else M.stuck
theorem mk_len {ds : List D} {f : List D → D} {Q : VK} {F H : Hp} (w : WP X.K Xw F H (if ds.length ≤ lim then M.ret (f ds) else M.stuck) Q) : ds.length ≤ lim ∧ WP X.K Xw F H (M.ret (f ds)) Q := by
  split at w
  · rename_i h; exact ⟨h, w⟩
  · exact w.elim
theorem pd_tup {x1} {es : List Expr} {δs : DA} (h : PDA X Xw es δs) : PD X Xw (.Tuple es x1 pos) (dA mkTup δs) := PE.weak (pe_tup h) fun σ H Q ⟨F, ρ, s, w⟩ => by
  refine ⟨F, ρ, s, WPL.mono (WP.bindL w) fun vs H1 ⟨F1, ds, e1, q1, w1⟩ => ?_⟩
  obtain ⟨hl, w1⟩ := mk_len (X := X) w1
  have hv := q1.len
  refine ⟨by have := lim_lt; omega, fun p hp => WP.fin w1 (Ext.lay e1.fh hp) ⟨p, vs, rfl, upd_same, DenL.mono (Ext.lay e1.fh hp).ff q1, hl⟩⟩
theorem pd_lst {es : List Expr} {δs : DA} (h : PDA X Xw es δs) : PD X Xw (.List es pos) (dA mkLst δs) := PE.weak (pe_lst h) fun σ H Q ⟨F, ρ, s, w⟩ => by
  refine ⟨F, ρ, s, WPL.mono (WP.bindL w) fun vs H1 ⟨F1, ds, e1, q1, w1⟩ => ?_⟩
  obtain ⟨hl, w1⟩ := mk_len (X := X) w1
  have hv := q1.len
  refine ⟨by have := lim_lt; omega, fun p hp => WP.fin w1 (Ext.lay e1.fh hp) ⟨p, vs, rfl, upd_same, DenL.mono (Ext.lay e1.fh hp).ff q1, hl⟩⟩
end
end L3


set_option Elab.async false
set_option linter.all false
set_option maxRecDepth 100000
namespace L3
open PySem PySem.Spec L2
open PyProof.Rows hiding St

def ItD (K : PySem.W.Frag) (F : Hp) (J : It) (ds : List D) : Prop := ∀ (F' H' : Hp) (i : Nat), Same F F' → Same F' H' →
  (∀ d, ds[i]? = some d → J.go i H' ∧ ∀ x H'', J.yld i H' x H'' → ∃ F'', Ext F' H' F'' H'' ∧ Den K F'' d x) ∧ (ds.length ≤ i → J.stop i H')
def WPI (K : PySem.W.Frag) (Xw : Nat → Hp → Prop) (F H : Hp) (m : M (List D)) (R : It → Hp → Prop) : Prop :=
  match m with
  | none => False
  | some (.ok ds) => ∀ J H' F', Ext F H F' H' → ItD K F' J ds → R J H'
  | some (.ex n) => ∀ F' H', Ext F H F' H' → Xw n H'
def tDI (K : PySem.W.Frag) (Xw : Nat → Hp → Prop) (δ : DA) : TI := fun σ H R => ∃ F ρ, StE K F H σ ρ ∧ WPI K Xw F H (δ ρ) R
def PDI (X : Cx) (Xw : Nat → Hp → Prop) (tg iter : Expr) (δ : DA) : Prop := PI X tg iter (tDI X.K Xw δ)
theorem PI.weak {X : Cx} {tg e : Expr} {t t' : TI} (h : PI X tg e t) (k : ∀ σ H Q, t' σ H Q → t σ H Q) : PI X tg e t' := fun pins s σ H Q I w => h pins s σ H Q I (k σ H Q w)
theorem WPI.bind {K : PySem.W.Frag} {Xw : Nat → Hp → Prop} {F H : Hp} {m : M D} {k : D → M (List D)} {R : It → Hp → Prop} (h : WPI K Xw F H (m >>= k) R) :
    WP K Xw F H m fun v H1 => ∃ F1 d, Ext F H F1 H1 ∧ Den K F1 d v ∧ WPI K Xw F1 H1 (k d) R := by
  match m, h with
  | none, h => exact h
  | some (.ok d), h =>
    refine fun v H2 F2 e2 q => ⟨F2, d, e2, q, ?_⟩
    have h : WPI K Xw F H (k d) R := h
    show WPI K Xw F2 H2 (k d) R
    match k d, h with
    | none, h => exact h
    | some (.ok ds), h => exact fun J H3 F3 e3 q3 => h J H3 F3 (e2.trans e3) q3
    | some (.ex n), h => exact fun F3 H3 e3 => h F3 H3 (e2.trans e3)
  | some (.ex n), h => exact h
theorem WPI.bindL {K : PySem.W.Frag} {Xw : Nat → Hp → Prop} {F H : Hp} {m : M (List D)} {k : List D → M (List D)} {R : It → Hp → Prop} (h : WPI K Xw F H (m >>= k) R) :
    WPL K Xw F H m fun v H1 => ∃ F1 d, Ext F H F1 H1 ∧ DenL K F1 d v ∧ WPI K Xw F1 H1 (k d) R := by
  match m, h with
  | none, h => exact h
  | some (.ok d), h =>
    refine fun v H2 F2 e2 q => ⟨F2, d, e2, q, ?_⟩
    have h : WPI K Xw F H (k d) R := h
    show WPI K Xw F2 H2 (k d) R
    match k d, h with
    | none, h => exact h
    | some (.ok ds), h => exact fun J H3 F3 e3 q3 => h J H3 F3 (e2.trans e3) q3
    | some (.ex n), h => exact fun F3 H3 e3 => h F3 H3 (e2.trans e3)
  | some (.ex n), h => exact h
def lstM : D → M (List D)
  | .lst ds => M.ret ds
  | _ => M.stuck
def tupM : D → M (List D)
  | .tup ds => M.ret ds
  | _ => M.stuck
def dItL (a : DE) : DA := fun ρ => a ρ >>= lstM
def dItT (a : DE) : DA := fun ρ => a ρ >>= tupM
theorem itd_list {K : PySem.W.Frag} {F : Hp} {a : Addr} {vs : List V} {ds : List D} (h : SqL K F a vs) (hd : DenL K F ds vs) : ItD K F (Itl K a) ds := fun F' H' i s1 s2 => by
  have hs := Same.seq s2 (Same.seq s1 h)
  refine ⟨fun d e => ?_, fun hl => ⟨vs, hs, by rw [← hd.len]; exact hl⟩⟩
  obtain ⟨v, e1, q⟩ := hd.get e
  refine ⟨⟨vs, v, hs, e1⟩, fun x H'' y => ?_⟩
  obtain ⟨e2, y⟩ := y
  subst e2
  have := y vs hs
  rw [e1] at this
  cases this
  exact ⟨F', Ext.refl s2, Den.mono s1 q⟩
theorem itd_tup {K : PySem.W.Frag} {F : Hp} {a : Addr} {vs : List V} {ds : List D} (h : SqT K F a vs) (hd : DenL K F ds vs) : ItD K F (Itt K a) ds := fun F' H' i s1 s2 => by
  have hs := Same.tup s2 (Same.tup s1 h)
  refine ⟨fun d e => ?_, fun hl => ⟨vs, hs, by rw [← hd.len]; exact hl⟩⟩
  obtain ⟨v, e1, q⟩ := hd.get e
  refine ⟨⟨vs, v, hs, e1⟩, fun x H'' y => ?_⟩
  obtain ⟨e2, y⟩ := y
  subst e2
  have := y vs hs
  rw [e1] at this
  cases this
  exact ⟨F', Ext.refl s2, Den.mono s1 q⟩
def rngL (lo : Int) (n : Nat) : List D := (List.range n).map fun (i : Nat) => D.int (lo + (i : Int))
theorem itd_range {K : PySem.W.Frag} {F : Hp} (lo : Int) (n : Nat) : ItD K F (Itr lo n) (rngL lo n) := fun F' H' i s1 s2 => by
  refine ⟨fun d e => ?_, fun hl => show n ≤ i by simpa [rngL] using hl⟩
  unfold rngL at e
  rw [List.getElem?_map] at e
  have hi : i < n := by
    by_cases hi : i < n
    · exact hi
    · rw [List.getElem?_eq_none (by simpa using hi)] at e; cases e
  rw [List.getElem?_range hi] at e
  cases e
  refine ⟨hi, fun x H'' y => ?_⟩
  obtain ⟨e2, y⟩ := y
  subst e2 y
  exact ⟨F', Ext.refl s2, rfl⟩
section
variable {X : Cx} {Xw : Nat → Hp → Prop} {tg l : Expr} {δ : DE} {pos : Pos}
theorem pdi_list (h : PD X Xw l δ) : PDI X Xw tg l (dItL δ) := PI.weak (pi_list h) fun σ H R ⟨F, ρ, s, w⟩ => by
  refine ⟨F, ρ, s, WP.mono (WPI.bind w) fun v H1 ⟨F1, d, e1, q1, w1⟩ => ?_⟩
  cases d with
  | lst ds =>
    obtain ⟨a, vs, h1, h2, h3, h4⟩ := q1
    exact ⟨a, h1, ⟨vs, Same.seq e1.fh (SqL.of h2)⟩, w1 _ _ _ (Ext.refl e1.fh) (itd_list (SqL.of h2) h3)⟩
  | _ => exact w1.elim
theorem pdi_tup (h : PD X Xw l δ) : PDI X Xw tg l (dItT δ) := PI.weak (pi_tup h) fun σ H R ⟨F, ρ, s, w⟩ => by
  refine ⟨F, ρ, s, WP.mono (WPI.bind w) fun v H1 ⟨F1, d, e1, q1, w1⟩ => ?_⟩
  cases d with
  | tup ds =>
    obtain ⟨a, vs, h1, h2, h3, h4⟩ := q1
    exact ⟨a, h1, ⟨vs, Same.tup e1.fh (SqT.of h2)⟩, w1 _ _ _ (Ext.refl e1.fh) (itd_tup (SqT.of h2) h3)⟩
  | _ => exact w1.elim
def rngM1 : List D → M (List D)
  | [.int j] => if -4096 ≤ j ∧ j ≤ 4096 then M.ret (rngL 0 j.toNat) else M.stuck
  | _ => M.stuck
def rngM2 : List D → M (List D)
  | [.int i, .int j] => if (-4096 ≤ i ∧ i ≤ 4096) ∧ (-4096 ≤ j ∧ j ≤ 4096) then M.ret (rngL i (j - i).toNat) else M.stuck
  | _ => M.stuck
theorem DenL.one {K : PySem.W.Frag} {F : Hp} {d : D} {vs : List V} (h : DenL K F [d] vs) : ∃ v, vs = [v] ∧ Den K F d v := by
  obtain ⟨v, r, h1, h2, h3⟩ := h
  cases (show r = [] from h3)
  exact ⟨v, h1, h2⟩
theorem DenL.two {K : PySem.W.Frag} {F : Hp} {d d' : D} {vs : List V} (h : DenL K F [d, d'] vs) : ∃ v v', vs = [v, v'] ∧ Den K F d v ∧ Den K F d' v' := by
  obtain ⟨v, r, h1, h2, h3⟩ := h
  obtain ⟨v', h4, h5⟩ := h3.one
  subst h4
  exact ⟨v, v', h1, h2, h5⟩
theorem pdi_range1 {a : Expr} {δs : DA} {p : Pos} (hg : Gl X "range") (hm : X.mg "range" = none) (ha : PDA X Xw [a] δs) (hs : starEach [a] X.env = [(false, eval a X.env)] := by rfl) : PDI X Xw tg (.Call (.Name "range" p) [a] [] pos) (fun ρ => δs ρ >>= rngM1) :=
  PI.weak (pi_range1 hg hm ha hs) fun σ H R ⟨F, ρ, s, w⟩ => by
    refine ⟨F, ρ, s, WPL.mono (WPI.bindL w) fun vs H1 ⟨F1, ds, e1, q1, w1⟩ => ?_⟩
    unfold rngM1 at w1
    split at w1
    · rename_i j
      obtain ⟨v, h1, h2⟩ := q1.one
      cases (show v = _ from h2)
      split at w1
      · exact ⟨j, h1, by omega, by omega, w1 _ _ _ (Ext.refl e1.fh) (itd_range 0 _)⟩
      · exact w1.elim
    · exact w1.elim
theorem pdi_range2 {a b : Expr} {δs : DA} {p : Pos} (hg : Gl X "range") (hm : X.mg "range" = none) (ha : PDA X Xw [a, b] δs) (hs : starEach [a, b] X.env = [(false, eval a X.env), (false, eval b X.env)] := by rfl)
    (hs2 : starEach [b] X.env = [(false, eval b X.env)] := by rfl) : PDI X Xw tg (.Call (.Name "range" p) [a, b] [] pos) (fun ρ => δs ρ >>= rngM2) :=
  PI.weak (pi_range2 hg hm ha hs hs2) fun σ H R ⟨F, ρ, s, w⟩ => by
    refine ⟨F, ρ, s, WPL.mono (WPI.bindL w) fun vs H1 ⟨F1, ds, e1, q1, w1⟩ => ?_⟩
    unfold rngM2 at w1
    split at w1
    · rename_i i j
      obtain ⟨v, v', h1, h2, h3⟩ := q1.two
      cases (show v = _ from h2)
      cases (show v' = _ from h3)
      split at w1
      · exact ⟨i, j, h1, ⟨by omega, by omega, by omega, by omega⟩, w1 _ _ _ (Ext.refl e1.fh) (itd_range i _)⟩
      · exact w1.elim
    · exact w1.elim
end

def hideN (tg N : List Str) : List Str := N.map fun y => if tg.contains y then y ++ (" " : Str) else y
def compX (X : Cx) (scope : Scope) (tn : List Str) (pins : List (Addr × Obj)) (cl : List (Str × Addr)) (C : Addr) (fp : List Addr) (s₂ : Shared) (H : Hp) : Cx :=
  { X with N := tn ++ hideN tn X.N, s₀ := s₂, H₀ := H, env := compEnvC scope cl C X.env, outer := X.stack, ex := fp, fn := fun _ => false, pn := X.pn ++ pins, xe := fun _ _ => False }
structure CompSc (X : Cx) (scope : Scope) (tn : List Str) : Prop where
  kind : scope.kind = .function
  nocell : ∀ y ∈ scope.names, y.2 ≠ .cell
  names : ∀ y ∈ scope.names, y.2 = .local → scope.names.lookup y.1 = some .local
  frees : ∀ y ∈ scope.names, y.2 = .free → X.env.kindOf y.1 = some .cell ∨ X.env.kindOf y.1 = some .free
  vis : ∀ p ∈ (hideN tn X.N).zip X.N, scope.names.lookup p.1 = none ∨ (p.1 = p.2 ∧ scope.names.lookup p.1 = some .free)

theorem closure_go {env : Env} : ∀ (names : List (Str × NameKind)) (acc : List (Str × Addr)), (∀ y ∈ names, y.2 = .free → ∃ c, env.cells.lookup y.1 = some c) →
    (∀ x c, acc.lookup x = some c → env.cells.lookup x = some c) →
    ∃ cl, (forIn names acc (fun (x : Str × NameKind) (r : List (Str × Addr)) => do
        let __x := x
        if (__x.2 == NameKind.free) = true then do let c ← cellOf env __x.1; pure (ForInStep.yield ((__x.1, c) :: r)) else pure (ForInStep.yield r)) : Sem (List (Str × Addr))) = pure cl ∧
      (∀ x c, cl.lookup x = some c → env.cells.lookup x = some c) ∧ (∀ x c, acc.lookup x = some c → ∃ c', cl.lookup x = some c') ∧ (∀ x, names.lookup x = some .free → ∃ c, cl.lookup x = some c)
  | [], acc, _, h2 => ⟨acc, rfl, h2, fun x c e => ⟨c, e⟩, fun x e => by simp at e⟩
  | (n, k) :: r, acc, h1, h2 => by
    by_cases hk : k = .free
    · subst hk
      obtain ⟨c, hc⟩ := h1 (n, .free) List.mem_cons_self rfl
      obtain ⟨cl, e, a1, a2, a3⟩ := closure_go r ((n, c) :: acc) (fun y hy => h1 y (List.mem_cons_of_mem _ hy)) (fun x c' q => by
        rw [List.lookup_cons] at q
        split at q
        · rename_i hx
          cases q
          rw [show x = n from by simpa using hx]; exact hc
        · exact h2 x c' q)
      refine ⟨cl, ?_, a1, fun x c' q => ?_, fun x q => ?_⟩
      · rw [List.forIn_cons]
        have : cellOf env n = pure c := by unfold cellOf; rw [hc]
        simp only [beq_self_eq_true, if_true, this, pure_bind]
        exact e
      · by_cases hx : x = n
        · subst hx
          exact a2 x c (by simp [List.lookup_cons])
        · exact a2 x c' (by rw [List.lookup_cons, show (x == n) = false from by simpa using hx]; exact q)
      · rw [List.lookup_cons] at q
        split at q
        · rename_i hx
          exact a2 x c (by rw [List.lookup_cons, hx])
        · exact a3 x q
    · obtain ⟨cl, e, a1, a2, a3⟩ := closure_go r acc (fun y hy => h1 y (List.mem_cons_of_mem _ hy)) h2
      refine ⟨cl, ?_, a1, a2, fun x q => ?_⟩
      · rw [List.forIn_cons]
        have : ((k == NameKind.free) = true) = False := by simpa using hk
        simp only [this, if_false, pure_bind]
        exact e
      · rw [List.lookup_cons] at q
        split at q
        · cases q; exact absurd rfl hk
        · exact a3 x q
theorem closure_of {scope : Scope} {env : Env} (h : ∀ y ∈ scope.names, y.2 = .free → ∃ c, env.cells.lookup y.1 = some c) :
    ∃ cl, closureFor scope env = pure cl ∧ (∀ x c, cl.lookup x = some c → env.cells.lookup x = some c) ∧ (∀ x, scope.names.lookup x = some .free → ∃ c, cl.lookup x = some c) := by
  obtain ⟨cl, e, a1, _, a3⟩ := closure_go (env := env) scope.names [] h (fun x c q => by simp at q)
  refine ⟨cl, ?_, a1, a3⟩
  unfold closureFor
  show (forIn scope.names [] _ >>= fun r => pure r) = _
  rw [bind_pure]
  exact e
end L3


set_option Elab.async false
set_option linter.all false
set_option maxRecDepth 100000
namespace L3
open PySem PySem.Spec L2
open PyProof.Rows hiding St

def noex {α : Type} : M α → M α
  | some (.ok a) => some (.ok a)
  | _ => none
def compL (f : D → M (Option D)) : List D → M (List D)
  | [] => M.ret []
  | d :: ds => f d >>= fun o => compL f ds >>= fun r => M.ret (match o with | some y => y :: r | none => r)
def tgM (n : Nat) : D → M (List D) := fun d => match n, d with
  | 0, d => M.ret [d]
  | n, .tup ds => if ds.length = n then M.ret ds else M.stuck
  | _, _ => M.stuck
def compF (n : Nat) (δt : DT) (δe : DE) (ρ : Rho) : D → M (Option D) := fun d =>
  tgM n d >>= fun ts => δt (ts.map (fun t => some (Sl.fz t)) ++ ρ) >>= fun b => if b then δe (ts.map (fun t => some (Sl.fz t)) ++ ρ) >>= fun y => M.ret (some y) else M.ret none
def dComp (n : Nat) (δi : DA) (δt : DT) (δe : DE) : DE := fun ρ => δi ρ >>= fun ds => noex (compL (compF n δt δe ρ) ds) >>= mkLst
def dTrue : DT := fun _ => M.ret true

theorem compL_cons (f : D → M (Option D)) (d : D) (ds : List D) : compL f (d :: ds) = (f d >>= fun o => compL f ds >>= fun r => M.ret (match o with | some y => y :: r | none => r)) := rfl
theorem compL_snoc {f : D → M (Option D)} {ds : List D} {i : Nat} {d : D} {ys R : List D} (hd : ds[i]? = some d)
    (h : compL f ds = (compL f (ds.drop i) >>= fun r => M.ret (ys ++ r))) (hR : compL f ds = M.ret R) :
    ∃ o, f d = M.ret o ∧ compL f ds = (compL f (ds.drop (i + 1)) >>= fun r => M.ret ((match o with | some y => ys ++ [y] | none => ys) ++ r)) := by
  have e : ds.drop i = d :: ds.drop (i + 1) := by
    obtain ⟨hi, e⟩ := List.getElem?_eq_some_iff.mp hd
    rw [List.drop_eq_getElem_cons hi, e]
  rw [e, compL_cons] at h
  have h' := h.symm.trans hR
  obtain ⟨r, h1, h2⟩ := bind_ok h'
  obtain ⟨o, h3, h4⟩ := bind_ok h1
  refine ⟨o, h3, ?_⟩
  obtain ⟨r', h5, h6⟩ := bind_ok h4
  rw [h5, hR]
  rw [← h2, ← ret_inj h6]
  show M.ret _ = M.ret _
  cases o with
  | none => rfl
  | some y => simp
theorem comp_loop {prog : Program} {w : World} {A : Around} {R : Result → Shared → Prop} {s : Shared} {elt target iter : Expr} {ifs : List Expr} {scope : Scope} {pos : Pos} {it acc : Value} {env : Env} (I : Nat → Shared → Prop)
    (turn : ∀ n s, I n s → wpAny (model prog w) A (pyNext it) (fun r s₁ => match r with
      | none => R (.ok .next) s₁
      | some v => wpAny (model prog w) A (letOwnedTupleGo target it v) (fun _ s₁' => wpAny (model prog w) A (assign target env v) (fun _ s₂ =>
          wpAny (model prog w) A (forIn ifs true fun c r => if r = true then do let ok ← isTrue c env (eval c env); pure (ForInStep.yield ok) else pure (ForInStep.yield r)) (fun ok s₃ =>
            if ok = true then wpAny (model prog w) A (eval elt env) (fun x s₄ =>
              wpAny (model prog w) A (call (.builtin "list.append") [acc, x]) (fun _ s₅ => ∃ m, m < n ∧ I m s₅) (notedBy (model prog w) A env fun e s' => R (.error e) s') s₄) (notedBy (model prog w) A env fun e s' => R (.error e) s') s₃
            else ∃ m, m < n ∧ I m s₃) (notedBy (model prog w) A env fun e s' => R (.error e) s') s₂) (notedBy (model prog w) A env fun e s' => R (.error e) s') s₁') (notedBy (model prog w) A env fun e s' => R (.error e) s') s₁) (notedBy (model prog w) A env fun e s' => R (.error e) s') s)
    (n : Nat) (h : I n s) :
    codeAny (model prog w) A (.compLoop (.ListComp elt [⟨target, iter, ifs, 0⟩] scope pos) 0 it acc env) R s := by
  refine codeAny_loop rfl I (fun n s hI => ?_) n h
  show wpAny _ A ((compTurn (.ListComp elt [⟨target, iter, ifs, 0⟩] scope pos) 0 it acc env).onRaise (fun x => do noteFrame x env; theTreesLotGoes x)) _ _ s
  refine wpAny_noted ?_
  rw [compTurn_list]
  refine wpAny_bind (wpAny_standAt (wpAny_bind (wpAny_mono (turn n s hI) (fun r s₁ h₁ => ?_) fun _ _ h' => h')))
  cases r with
  | none => exact wpAny_pure h₁
  | some v =>
    refine wpAny_bind (wpAny_mono h₁ (fun _ s₁' h₁ => ?_) fun _ _ h' => h')
    refine wpAny_bind (wpAny_mono h₁ (fun _ s₂ h₂ => wpAny_bind (wpAny_mono h₂ (fun ok s₃ h₃ => ?_) fun _ _ h' => h')) fun _ _ h' => h')
    cases ok with
    | false => exact wpAny_pure ⟨rfl, h₃⟩
    | true =>
      exact wpAny_bind (wpAny_bind (wpAny_mono h₃ (fun x s₄ h₄ => wpAny_bind (wpAny_mono h₄ (fun _ s₅ h₅ => wpAny_pure (wpAny_pure ⟨rfl, h₅⟩)) fun _ _ h' => h')) fun _ _ h' => h'))

def TgOk (X : Cx) (tg : Expr) (n : Nat) (σ : St) : Prop := ∀ (pins : List (Addr × Obj)) (s : Shared) (σ' : St) (F H : Hp) (d : D) (ts : List D) (v : V) (u : Value), Inv X pins σ' H s → Same F H → σ'.drop (max n 1) = σ → RelV v u → Den X.K F d v → tgM n d = M.ret ts →
  wpAny (model X.prog X.w) X.A (assign tg X.env u) (fun _ s' => ∃ vs, Inv X pins (vs.map some ++ σ) H s' ∧ DenL X.K F ts vs) X.xe s
def TestOk (X : Cx) (ifs : List Expr) (δt : DT) : Prop := ∀ (pins : List (Addr × Obj)) (s : Shared) (σ : St) (H : Hp) (Q : Bool → Hp → Prop), Inv X pins σ H s → tDT X.K (fun _ _ => False) δt σ H Q →
  wpAny (model X.prog X.w) X.A (forIn ifs true fun c r => if r = true then do let ok ← isTrue c X.env (eval c X.env); pure (ForInStep.yield ok) else pure (ForInStep.yield r)) (TP X pins σ Q) X.xe s
theorem test_nil {X : Cx} : TestOk X [] dTrue := fun pins s σ H Q I ⟨F, ρ, S, w⟩ => wpAny_tests_nil ⟨H, I, w H F (Ext.refl S.fh)⟩
theorem test_one {X : Cx} {c : Expr} {δ : DT} (h : PDT X (fun _ _ => False) c δ) : TestOk X [c] δ := fun pins s σ H Q I w => wpAny_tests_one (h pins s σ H Q I w)

theorem StE.cons {K : PySem.W.Frag} {F H : Hp} {σ : St} {ρ : Rho} {ts : List D} {vs : List V} (s : StE K F H σ ρ) (h : DenL K F ts vs) : StE K F H (vs.map some ++ σ) (ts.map (fun t => some (Sl.fz t)) ++ ρ) := by
  refine ⟨s.fh, fun i sl e => ?_⟩
  have hl := h.len
  by_cases hi : i < ts.length
  · rw [List.getElem?_append_left (by simpa using hi), List.getElem?_map] at e
    cases q : ts[i]? with
    | none => rw [q] at e; cases e
    | some t =>
      rw [q] at e
      cases e
      obtain ⟨v, e1, e2⟩ := h.get q
      exact ⟨v, by rw [List.getElem?_append_left (by simp; omega), List.getElem?_map, e1]; rfl, e2⟩
  · rw [List.getElem?_append_right (by simpa using hi)] at e
    obtain ⟨v, e1, e2⟩ := s.den _ _ e
    refine ⟨v, ?_, e2⟩
    rw [List.getElem?_append_right (by simp; omega)]
    simpa [hl] using e1
theorem WPB.take {Xw : Nat → Hp → Prop} {F H : Hp} {b : Bool} : WPB Xw F H (M.ret b) fun b' H' => b' = b ∧ ∃ F', Ext F H F' H' := fun H' F' e => ⟨rfl, F', e⟩
theorem WP.take {K : PySem.W.Frag} {Xw : Nat → Hp → Prop} {F H : Hp} {d : D} : WP K Xw F H (M.ret d) fun v H' => ∃ F', Ext F H F' H' ∧ Den K F' d v := fun v H' F' e q => ⟨F', e, q⟩
def relK (env : Env) (p : Str × NameKind) : Str × NameKind := if (p.2 == .free && env.scope.kind == .function && env.kindOf p.1 == some .cell) then (p.1, .cell) else (p.1, p.2)
theorem relabel_names (scope : Scope) (env : Env) : (relabel scope env).names = scope.names.map (relK env) := rfl
theorem relK_fst (env : Env) (p : Str × NameKind) : (relK env p).1 = p.1 := by unfold relK; split <;> rfl
theorem lookup_rel (env : Env) (x : Str) : ∀ ns : List (Str × NameKind), (ns.map (relK env)).lookup x = (ns.lookup x).map fun k => (relK env (x, k)).2
  | [] => rfl
  | (m, k) :: r => by
    rw [List.map_cons, List.lookup_cons, List.lookup_cons]
    have e : relK env (m, k) = (m, (relK env (m, k)).2) := Prod.ext (relK_fst env (m, k)) rfl
    rw [e]
    dsimp only
    by_cases hx : (x == m) = true
    · have hm : x = m := by simpa using hx
      subst hm
      rw [hx]
      rfl
    · have hx : (x == m) = false := by simpa using hx
      rw [hx]
      exact lookup_rel env x r
theorem relabel_none {scope : Scope} {env : Env} {x : Str} (h : scope.names.lookup x = none) : (relabel scope env).names.lookup x = none := by
  rw [relabel_names, lookup_rel, h]; rfl
theorem relabel_free {scope : Scope} {env : Env} {x : Str} (hc : ∀ y ∈ scope.names, y.2 ≠ .cell) (h : (relabel scope env).names.lookup x = some .cell ∨ (relabel scope env).names.lookup x = some .free) : scope.names.lookup x = some .free := by
  rw [relabel_names, lookup_rel] at h
  cases q : scope.names.lookup x with
  | none => rw [q] at h; rcases h with h | h <;> cases h
  | some k =>
    rw [q] at h
    have hk : k ≠ .cell := hc _ (PySem.mem_of_lookup q)
    have h : (relK env (x, k)).2 = .cell ∨ (relK env (x, k)).2 = .free := by simpa using h
    by_cases hf : k = .free
    · rw [hf]
    · have : (relK env (x, k)).2 = k := by
        unfold relK
        rw [if_neg]
        simp [hf]
      rw [this] at h
      rcases h with h | h
      · exact absurd h hk
      · exact absurd h hf
theorem relabel_notlocal {scope : Scope} {env : Env} {x : Str} (h : scope.names.lookup x = some .free) : ¬ (relabel scope env).names.lookup x = some .local := by
  rw [relabel_names, lookup_rel, h]
  intro z
  have z : (relK env (x, .free)).2 = .local := by simpa using z
  unfold relK at z
  split at z <;> cases z
structure BlockEnd (X : Cx) (pins : List (Addr × Obj)) (C : Addr) (H' : Hp) (s1 : Shared) : Prop where
  ns : ∃ m, s1.heap.Ns C m
  free : H' C = none
  nl : C ≠ X.env.locals
  nw : X.s₀.heap.objs.size ≤ C
  nc : ∀ x c, X.env.cells.lookup x = some c → c ≠ C
  np : ∀ p ∈ X.pn ++ pins, p.1 ≠ C
theorem comp_run {X : Cx} {Xw : Nat → Hp → Prop} {elt iter tg : Expr} {ifs : List Expr} {scope : Scope} {pos : Pos} {tn : List Str} {n : Nat} {δi : DA} {δt : DT} {δe : DE} {cl : List (Str × Addr)} {pins : List (Addr × Obj)} {s : Shared} {σ : St} {H F : Hp} {ρ : Rho} {Q : VK} {RR : Value → Addr → Result → Shared → Prop}
    (sc : CompSc X scope tn) (hn : tn.length = max n 1) (hc : X.calm = true) (hi : PDI X Xw tg iter δi)
    (hg : ∀ pins cl C fp s₂ H σ, TgOk (compX X scope tn pins cl C fp s₂ H) tg n σ)
    (ht : ∀ pins cl C fp s₂ H, TestOk (compX X scope tn pins cl C fp s₂ H) ifs δt)
    (he : ∀ pins cl C fp s₂ H, PD (compX X scope tn pins cl C fp s₂ H) (fun _ _ => False) elt δe)
    (I : Inv X pins σ H s) (S : StE X.K F H σ ρ) (w : WP X.K Xw F H (dComp n δi δt δe ρ) Q)
    (cl1 : ∀ x c, cl.lookup x = some c → X.env.cells.lookup x = some c) (cl2 : ∀ x, scope.names.lookup x = some .free → ∃ c, cl.lookup x = some c)
    (hRR : ∀ (s1 : Shared) (C D : Addr) (H' : Hp), Inv X pins σ H' s1 → Q (.ref D) H' → BlockEnd X pins C H' s1 → RR (.ref D) C (.ok .next) s1) :
    wpAny (model X.prog X.w) X.A (eval iter X.env) (fun x s₁ => wpAny (model X.prog X.w) X.A (pyIter x) (fun it s₂ => wpAny (model X.prog X.w) X.A (newList []) (fun acc s₃ =>
      wpAny (model X.prog X.w) X.A (newFunctionEnv scope X.env.globals cl [] X.env.qual none .none (some X.env)) (fun cenv s₄ =>
        codeAny (model X.prog X.w) X.A (.compStart (.ListComp elt [⟨tg, iter, ifs, 0⟩] scope pos) 0 it acc { cenv with scope := relabel scope X.env }) (RR acc cenv.locals) s₄) X.xe s₃) X.xe s₂) X.xe s₁) X.xe s := by
  refine thn (hi pins s σ H (fun J H2 => ∃ F2 ds, Ext F H F2 H2 ∧ ItD X.K F2 J ds ∧ WP X.K Xw F2 H2 (noex (compL (compF n δt δe ρ) ds) >>= mkLst) Q) I ⟨F, ρ, S, ?_⟩) fun xv s₁ h₁ => thn h₁ fun it s₂ h₂ => ?_
  · unfold dComp at w
    rcases (δi ρ).cs with hq | ⟨m, hq⟩ | ⟨ds, hq⟩
    · rw [hq] at w; exact w.elim
    · rw [hq] at w ⊢; exact w
    · rw [hq] at w ⊢; exact fun J H' F' e q => ⟨F', ds, e, q, WP.ext e w⟩
  obtain ⟨ia, fp, tnn, J, H2, rfl, I2, T, st2, f2, F2, ds, e2, it2, w2⟩ := h₂
  obtain ⟨R, hR, hRl, w2⟩ : ∃ R, compL (compF n δt δe ρ) ds = M.ret R ∧ R.length ≤ lim ∧ WP X.K Xw F2 H2 (M.ret (.lst R)) Q := by
    rcases (compL (compF n δt δe ρ) ds).cs with hq | ⟨m, hq⟩ | ⟨R, hq⟩
    · rw [hq] at w2; exact w2.elim
    · rw [hq] at w2; exact w2.elim
    · rw [hq] at w2
      obtain ⟨h1, h2⟩ := mk_len (X := X) (f := D.lst) (show WP X.K Xw F2 H2 (mkLst R) Q from w2)
      exact ⟨R, hq, h1, h2⟩
  refine wpAny_newObj_type (wpAny_newFunctionEnv sc.nocell (by intro y hy; simp at hy) (fun h₁ hns₁ hsb₁ => ?_) sc.kind)
  dsimp only at hns₁ hsb₁ ⊢
  generalize hHL : s₂.heap.push { cls := .type "list", dict := none, data := .seq ([] : List Value).toArray } = HL at hns₁ hsb₁ ⊢
  have hC : HL.objs.size = s₂.heap.objs.size + 1 := by rw [← hHL, Heap.size_push]
  have hDC : s₂.heap.objs.size < HL.objs.size := by rw [hC]; exact Nat.lt_succ_self _
  have old : ∀ b o, s₂.heap.get? b = some o → h₁.get? b = some o := fun b o e => hsb₁.extBut b o (Nat.ne_of_lt (Nat.lt_trans (Heap.lt_size e) hDC)) (Heap.get?_push_of_some _ (hHL ▸ Heap.get?_push_of_some _ e))
  have hacc : h₁.get? s₂.heap.objs.size = some { cls := .type "list", data := .seq ([] : List Value).toArray } := hsb₁.extBut _ _ (Nat.ne_of_lt hDC) (Heap.get?_push_of_some _ (hHL ▸ Heap.get?_push_size _ rfl))
  have nD : H2 s₂.heap.objs.size = none := I2.hok.fresh (Nat.le_refl _)
  have nC : H2 HL.objs.size = none := I2.hok.fresh (Nat.le_of_lt hDC)
  have gC : s₂.heap.get? HL.objs.size = none := Heap.get?_none_of_le (Nat.le_of_lt hDC)
  have fl : ∀ b ∈ fp, b < s₂.heap.objs.size := fun b hb => by
    obtain ⟨o, e, _⟩ := T.obj 0 _ st2 b hb
    exact Heap.lt_size e
  generalize hX' : compX X scope tn pins cl HL.objs.size fp s₂ H2 = X'
  -- the block's context
  have ok' : X'.Ok := by
    subst hX'
    refine ⟨I2.ok.mod, sc.kind, I2.ok.glob, I2.ok.blt, Nat.le_of_lt hDC, fun x y c h1 h2 => I2.ok.inj x y c (cl1 _ _ h1) (cl1 _ _ h2), fun x hx => ?_, fun _ _ h => (by cases h), I2.ok.hd, I2.ok.frames, .inl rfl,
      fun b hb => ⟨Nat.ne_of_lt (Nat.lt_trans (fl b hb) hDC), fun x c h => (f2 b hb).2.2.2.2.1 x c (cl1 _ _ h)⟩, I2.bs, Nat.le_trans I2.ok.bsz I2.sz, fun b o e hb => ?_, fun b hb z => ?_, I2.stack, I2.stkFree⟩
    · have hx : (relabel scope X.env).names.lookup x = some .cell ∨ (relabel scope X.env).names.lookup x = some .free := hx
      exact cl2 x (relabel_free sc.nocell hx)
    · rcases (f2 b hb).2.2.2.1 with z | z
      · exact I2.ok.noex b o e z
      · exact absurd (Nat.lt_of_lt_of_le (Heap.lt_size (I2.ok.bs b o e).1) z) (Nat.lt_irrefl _)
    · rcases List.mem_cons.mp (I2.stkSub b z) with q | q
      · exact (f2 b hb).2.1 q
      · exact (f2 b hb).2.2.1 q
  have nD' : ∀ b o, H2 b = some o → b ≠ s₂.heap.objs.size := fun b o e => ne_of_none e nD
  have fpok : ∀ {H' : Hp}, (∀ b ∈ fp, H' b = none) → ∀ b ∈ fp, FpOk X' [] H' b := fun hnn b hb => by
    subst hX'
    refine ⟨hnn b hb, Nat.ne_of_lt (Nat.lt_trans (fl b hb) hDC), fun z => ok'.exfs b hb z, .inl hb, fun x c h => (f2 b hb).2.2.2.2.1 x c (cl1 _ _ h), fun p hp => ?_⟩
    rw [List.append_nil] at hp
    exact (f2 b hb).2.2.2.2.2 p hp
  have I0 : Inv X' [] (List.replicate (max n 1) none ++ σ) (upd H2 s₂.heap.objs.size (.lst [])) { s₂ with heap := h₁, toks := s₂.toks + ([] : List (Str × Value)).length } := by
    subst hX'
    have hokL : HOk X.prog X.w (upd H2 s₂.heap.objs.size (.lst [])) h₁ := I2.hok.laid old (Nat.le_refl _) ⟨Nat.zero_le _, [], _, .nil, hacc⟩
    refine ⟨ok', rfl, I2.bare, Un.laid old (Nat.le_refl _) nD, ⟨_, hns₁, fun i x v h1 h2 h3 => ?_⟩, fun x c h => ?_, ?_, fun x c h => ?_, fun p hp => ?_, hokL, ?_⟩
    · by_cases hi : i < max n 1
      · rw [List.getElem?_append_left (by simpa using hi), List.getElem?_replicate, if_pos hi] at h2
        cases h2
      · have hi' : tn.length ≤ i := by omega
        have h1 : (tn ++ hideN tn X.N)[i]? = some x := h1
        rw [List.getElem?_append_right hi'] at h1
        rw [List.getElem?_append_right (by simpa using hi), List.length_replicate, ← hn] at h2
        have hN : ∃ y, X.N[i - tn.length]? = some y ∧ (x, y) ∈ (hideN tn X.N).zip X.N := by
          have hlt := (List.getElem?_eq_some_iff.mp h1).1
          have hlt' : i - tn.length < X.N.length := by simpa [hideN] using hlt
          refine ⟨X.N[i - tn.length], List.getElem?_eq_getElem hlt', ?_⟩
          refine List.mem_iff_getElem?.mpr ⟨i - tn.length, ?_⟩
          rw [List.getElem?_zip_eq_some]
          exact ⟨h1, List.getElem?_eq_getElem hlt'⟩
        obtain ⟨y, hy, hm⟩ := hN
        have hV : (relabel scope X.env).names.lookup x = some .local ∨ (relabel scope X.env).names.lookup x = some .cell ∨ (relabel scope X.env).names.lookup x = some .free := h3
        rcases sc.vis _ hm with hno | ⟨hxy, hfr⟩
        · have hno : scope.names.lookup x = none := hno
          have : (relabel scope X.env).names.lookup x = none := relabel_none hno
          rw [this] at hV
          rcases hV with z | z | z <;> cases z
        · have hxy : x = y := hxy
          subst hxy
          have hfr : scope.names.lookup x = some .free := hfr
          have hk := sc.frees (x, .free) (PySem.mem_of_lookup hfr) rfl
          obtain ⟨m, hm2, hl2⟩ := I2.loc
          obtain ⟨u, ru, lk⟩ := hl2 _ x v hy h2 (by rcases hk with z | z; exact .inr (.inl z); exact .inr (.inr z))
          refine ⟨u, ru, .inr ⟨?_, ?_⟩⟩
          · rcases hV with z | z | z
            · exact absurd z (relabel_notlocal hfr)
            · exact .inl z
            · exact .inr z
          · rcases lk with ⟨z, _⟩ | ⟨_, c, hc1, hc2⟩
            · rcases hk with q | q
              · rw [show X.env.kindOf x = some .local from z] at q; cases q
              · rw [show X.env.kindOf x = some .local from z] at q; cases q
            · obtain ⟨c', hc'⟩ := cl2 x hfr
              have := cl1 _ _ hc'
              rw [hc1] at this
              cases this
              obtain ⟨o, ho, hd⟩ := hc2
              exact ⟨c, hc', o, old _ _ ho, hd⟩
    · obtain ⟨v, o, ho, hd⟩ := I2.cell x c (cl1 _ _ h)
      exact ⟨v, o, old _ _ ho, hd⟩
    · show upd H2 s₂.heap.objs.size (.lst []) HL.objs.size = none
      rw [upd_ne (Nat.ne_of_gt hDC)]
      exact nC
    · have hcl := cl1 _ _ h
      obtain ⟨v, q⟩ := I2.cell x c hcl
      rw [upd_ne (Nat.ne_of_lt q.lt)]
      exact I2.freeC x c hcl
    · rw [List.append_nil] at hp
      obtain ⟨e, nn, ne, nf, d⟩ := I2.pin p hp
      have hlt := Heap.lt_size e
      refine ⟨old _ _ e, by rw [upd_ne (Nat.ne_of_lt hlt)]; exact nn, Nat.ne_of_lt (Nat.lt_trans hlt hDC), fun z => ?_, d⟩
      rcases List.mem_cons.mp (I2.stkSub p.1 z) with q | q
      · exact ne q
      · exact nf q
    · show (List.replicate (max n 1) none ++ σ).length = (tn ++ hideN tn X.N).length
      rw [List.length_append, List.length_append, List.length_replicate, hn, show (hideN tn X.N).length = X.N.length from by simp [hideN], I2.len]
  have loop : ∀ s₃ : Shared, s₃ = { s₂ with heap := h₁, toks := s₂.toks + ([] : List (Str × Value)).length } →
      codeAny (model X.prog X.w) X.A (.compLoop (.ListComp elt [⟨tg, iter, ifs, 0⟩] scope pos) 0 (.ref ia) (.ref s₂.heap.objs.size) (compEnvC scope cl HL.objs.size X.env))
        (RR (.ref s₂.heap.objs.size) HL.objs.size) s₃ := by
    intro s₃ hs₃
    have env' : X'.env = compEnvC scope cl HL.objs.size X.env := by subst hX'; rfl
    have hA : X'.A = X.A := by subst hX'; rfl
    have hP : X'.prog = X.prog := by subst hX'; rfl
    have hw : X'.w = X.w := by subst hX'; rfl
    have hK : X'.K = X.K := by subst hX'; rfl
    have hxe : X'.xe = fun _ _ => False := by subst hX'; rfl
    have hcalm : X'.calm = true := by subst hX'; exact hc
    have hfs : X'.fs = frs X.stack := by subst hX'; rfl
    have hex : X'.ex = fp := by subst hX'; rfl
    have hH₀ : X'.H₀ = H2 := by subst hX'; rfl
    have hs₀ : X'.s₀ = s₂ := by subst hX'; rfl
    have pass : ∀ {α : Type} {t : Sem α} {P : α → Shared → Prop} {E' : Value → Shared → Prop} {s : Shared}, wpAny (model X'.prog X'.w) X'.A t P X'.xe s → wpAny (model X.prog X.w) X.A t P E' s := fun {α t P E' s} h => by
      rw [hP, hw, hA, hxe] at h
      exact wpAny_mono h (fun _ _ q => q) fun _ _ q => q.elim
    refine comp_loop (fun m s' => ∃ (i : Nat) (F' H' : Hp) (vs : List V) (ys : List D) (σt : St), m = ds.length - i ∧ i ≤ ds.length ∧ σt.length = max n 1 ∧ Inv X' [] (σt ++ σ) H' s' ∧ tnn i s'.heap ∧ (∀ b ∈ fp, H' b = none) ∧ Ext F2 H2 F' H' ∧
      H' s₂.heap.objs.size = some (.lst vs) ∧ F' s₂.heap.objs.size = none ∧ DenL X.K F' ys vs ∧ compL (compF n δt δe ρ) ds = (compL (compF n δt δe ρ) (ds.drop i) >>= fun r => M.ret (ys ++ r))) ?_ ds.length ?_
    · rintro m s' ⟨i, F', H', vs, ys, σt, rfl, hile, hσt, I', st', fr', ex', hD, fD, hys, heq⟩
      by_cases hlt : i < ds.length
      · -- one more item
        obtain ⟨d, hd⟩ : ∃ d, ds[i]? = some d := ⟨_, List.getElem?_eq_getElem hlt⟩
        obtain ⟨hgo, hyld⟩ := (it2 F' H' i ex'.ff ex'.fh).1 d hd
        obtain ⟨o, ho, heq'⟩ := compL_snoc hd heq hR
        have hys_le : ys.length ≤ lim := by
          rw [heq] at hR
          obtain ⟨r, _, hr⟩ := bind_ok hR
          rw [← ret_inj hr, List.length_append] at hRl
          omega
        obtain ⟨ts, hts, ho⟩ := bind_ok ho
        refine pass ?_
        rw [hP, hw]
        refine thn (T.item X' hP hw hK hcalm i [] s' (σt ++ σ) H' X'.xe I' (fpok fr') st' hgo) ?_
        rintro r s1 ⟨u, rfl, h1⟩
        refine pass ?_
        rw [hP, hw]
        refine thn h1 ?_
        rintro _ s2 ⟨x, H3, I3, rx, y3, st3, fr3⟩
        obtain ⟨F3, ex3, q3⟩ := hyld x H3 y3
        have hD3 : H3 s₂.heap.objs.size = some (.lst vs) := ex3.hh _ _ hD
        have fD3 : F3 s₂.heap.objs.size = none := by rw [ex3.old hD (fun _ z => nomatch z)]; exact fD
        have I3' := I3.pinned (fpok fr3) (T.obj _ _ st3)
        have keepT : ∀ {σ7 : St} {H7 : Hp} {s7 : Shared}, Inv X' ([] ++ pinsAt fp s2.heap) σ7 H7 s7 → tnn (i + 1) s7.heap ∧ ∀ b ∈ fp, H7 b = none := fun {σ7 H7 s7} I7 =>
          ⟨T.keep _ _ _ st3 fun b hb o e => (I7.pin (b, o) (List.mem_append_right _ (List.mem_append_right _ (mem_pinsAt hb e)))).1, fun b hb => by
            obtain ⟨o, e, _⟩ := T.obj _ _ st3 b hb
            exact (I7.pin (b, o) (List.mem_append_right _ (List.mem_append_right _ (mem_pinsAt hb e)))).2.1⟩
        have hgX : TgOk X' tg n σ := by subst hX'; exact hg _ _ _ _ _ _ _
        have htX : TestOk X' ifs δt := by subst hX'; exact ht _ _ _ _ _ _
        have heX : PD X' (fun _ _ => False) elt δe := by subst hX'; exact he _ _ _ _ _ _
        refine pass ?_
        rw [← env']
        refine thn (hgX _ s2 (σt ++ σ) F3 H3 d ts x u I3' ex3.fh (by rw [← hσt]; simp) rx (by rw [hK]; exact q3) hts) ?_
        rintro _ s4 ⟨vt, I4, dt⟩
        rw [hK] at dt
        have S4 : StE X.K F3 H3 (vt.map some ++ σ) (ts.map (fun t => some (Sl.fz t)) ++ ρ) := StE.cons ((S.ext e2).ext (ex'.trans ex3)) dt
        obtain ⟨b, hb, ho⟩ := bind_ok ho
        refine pass ?_
        try rw [← env']
        refine thn (htX _ s4 _ H3 (fun b' H5 => b' = b ∧ ∃ F5, Ext F3 H3 F5 H5) I4 ⟨F3, _, by rw [hK]; exact S4, by rw [hb]; exact WPB.take⟩) ?_
        rintro b' s5 ⟨H5, I5, rfl, F5, ex5⟩
        have hD5 : H5 s₂.heap.objs.size = some (.lst vs) := ex5.hh _ _ hD3
        have fD5 : F5 s₂.heap.objs.size = none := by rw [ex5.old hD3 (fun _ z => nomatch z)]; exact fD3
        cases b' with
        | false =>
          rw [if_neg Bool.false_ne_true] at ho ⊢
          obtain rfl := ret_inj ho
          refine ⟨ds.length - (i + 1), by omega, i + 1, F5, H5, vs, ys, vt.map some, rfl, hlt, ?_, I5.unpinned, (keepT I5).1, (keepT I5).2, ex'.trans (ex3.trans ex5), hD5, fD5, DenL.mono (ex3.trans ex5).ff hys, heq'⟩
          have h1 := I5.len
          have h2 := I3.len
          rw [List.length_append] at h1 h2
          omega
        | true =>
          rw [if_pos rfl] at ho ⊢
          obtain ⟨yv, hy, ho⟩ := bind_ok ho
          obtain rfl := ret_inj ho
          refine pass ?_
          try rw [← env']
          refine thn (heX _ s5 _ H5 (fun v H6 => ∃ F6, Ext F5 H5 F6 H6 ∧ Den X.K F6 yv v) I5 ⟨F5, _, by rw [hK]; exact S4.ext ex5, by rw [hy, hK]; exact WP.take⟩) ?_
          rintro xv s6 ⟨v, H6, I6, rv, F6, ex6, qv⟩
          have hD6 : H6 s₂.heap.objs.size = some (.lst vs) := ex6.hh _ _ hD5
          have fD6 : F6 s₂.heap.objs.size = none := by rw [ex6.old hD5 (fun _ z => nomatch z)]; exact fD5
          have hvl : vs.length < sizeLine := by
            have := hys.len
            have := lim_lt
            omega
          refine pass ?_
          refine thn (mt_append _ s6 _ H6 (.ref s₂.heap.objs.size) [v] (.ref s₂.heap.objs.size) [xv] (fun _ H7 => H7 = upd H6 s₂.heap.objs.size (.lst (vs ++ [v]))) I6 rfl (.cons rv .nil) ⟨_, vs, v, rfl, rfl, hD6, hvl, rfl⟩) ?_
          rintro _ s7 ⟨_, H7, I7, _, rfl⟩
          have ex7 : Ext F2 H2 F6 (upd H6 s₂.heap.objs.size (.lst (vs ++ [v]))) := by
            have e := ex'.trans (ex3.trans (ex5.trans ex6))
            refine ⟨fun b u q => ?_, e.ff, fun b u q => ?_, e.new⟩
            · rw [upd_ne (nD' b u q)]; exact e.hh b u q
            · rw [upd_ne (fun z => by rw [z, fD6] at q; cases q)]; exact e.fh b u q
          refine ⟨ds.length - (i + 1), by omega, i + 1, F6, _, vs ++ [v], ys ++ [yv], vt.map some, rfl, hlt, ?_, I7.unpinned, (keepT I7).1, (keepT I7).2, ex7, upd_same, fD6,
            DenL.append (DenL.mono (ex3.trans (ex5.trans ex6)).ff hys) (.cons qv .nil), heq'⟩
          have h1 := I5.len
          have h2 := I3.len
          rw [List.length_append] at h1 h2
          omega
      · -- the end
        have hi : i = ds.length := by omega
        subst hi
        rw [List.drop_length] at heq
        have hRy : R = ys := by
          rw [heq] at hR
          have hR : M.ret (ys ++ []) = M.ret R := hR
          rw [← ret_inj hR, List.append_nil]
        subst hRy
        refine pass ?_
        rw [hP, hw]
        refine thn (T.done X' hP hw hK hcalm ds.length [] s' (σt ++ σ) H' X'.xe I' (fpok fr') st' ((it2 F' H' ds.length ex'.ff ex'.fh).2 (Nat.le_refl _))) ?_
        rintro r s1 ⟨rfl, I1⟩
        obtain ⟨m, hm, _⟩ := I1.loc
        rw [env'] at hm
        have hCn : H' HL.objs.size = none := by
          have := I1.free
          rw [env'] at this
          exact this
        have u := I1.base
        rw [hfs, hex, hH₀, hs₀] at u
        have hos : s1.os = s₂.os := by have := I1.os; rw [hs₀] at this; exact this
        have hhok := I1.hok
        rw [hP, hw] at hhok
        refine hRR s1 HL.objs.size s₂.heap.objs.size H' (I2.call' (s' := s1) (ch := fp) hos u hhok I1.bare (fun b hb => ⟨(f2 b hb).2.2.2.1, (f2 b hb).2.1, (f2 b hb).2.2.2.2.1, (f2 b hb).2.2.2.2.2⟩)) ?_
          ⟨⟨m, hm⟩, hCn, Nat.ne_of_gt (Nat.lt_trans I2.lt hDC), Nat.le_trans I2.sz (Nat.le_of_lt hDC), fun x c q z => ?_, fun p hp z => ?_⟩
        rotate_left
        · obtain ⟨v, q'⟩ := I2.cell x c q
          exact absurd (Nat.lt_trans q'.lt hDC) (by rw [z]; exact Nat.lt_irrefl _)
        · exact absurd (Nat.lt_trans (Heap.lt_size (I2.pin p hp).1) hDC) (by rw [z]; exact Nat.lt_irrefl _)
        refine WP.fin w2 (F' := upd F' s₂.heap.objs.size (.lst vs)) ⟨ex'.hh, fun b u q => ?_, fun b u q => ?_, fun a ha => ?_⟩ ⟨_, vs, rfl, upd_same, DenL.mono (fun b u q => ?_) hys, hRl⟩
        · rw [upd_ne (fun z => by have := ex'.ff b u q; rw [z, fD] at this; cases this)]; exact ex'.ff b u q
        · by_cases z : b = s₂.heap.objs.size
          · rw [z, upd_same] at q; rw [z, hD]; exact q
          · rw [upd_ne z] at q; exact ex'.fh b u q
        · rcases ex'.new a ha with q | q
          · exact .inl (by rw [upd_ne (fun z => ha (by rw [z]; exact nD))]; exact q)
          · exact .inr q
        · rw [upd_ne (fun z => by rw [z, fD] at q; cases q)]; exact q
    · rw [hs₃]
      refine ⟨0, F2, _, [], [], List.replicate (max n 1) none, by simp, Nat.zero_le _, by simp, I0, T.keep _ _ _ st2 (fun b hb o e => old b o e), fun b hb => ?_, ⟨fun b u q => ?_, Same.refl _, fun b u q => ?_, fun _ _ => .inl rfl⟩, upd_same, Same.free e2.fh nD, rfl, ?_⟩
      · rw [upd_ne (Nat.ne_of_lt (fl b hb))]; exact (f2 b hb).1
      · rw [upd_ne (nD' b u q)]; exact q
      · rw [upd_ne (nD' b u (e2.fh b u q))]; exact e2.fh b u q
      · rw [List.drop_zero]
        rcases (compL (compF n δt δe ρ) ds).cs with hq | ⟨m, hq⟩ | ⟨R, hq⟩ <;> rw [hq] <;> rfl
  exact codeAny_compStart_list (loop _ rfl) (T.self X.A 0 _ _ _ (T.keep _ _ _ st2 (fun b hb o e => old b o e)) (loop _ rfl))
theorem Inv.block {X : Cx} {pins : List (Addr × Obj)} {σ : St} {H' : Hp} {s1 : Shared} {C : Addr} {h' : Heap} (I : Inv X pins σ H' s1) (b : BlockEnd X pins C H' s1) (hsb : Heap.SameBut C s1.heap h') : Inv X pins σ H' { s1 with heap := h' } :=
  I.turned (t' := s1.toks) (fun a o ha e => (hsb.2 a ha).trans e) b.free b.nl (.inr b.nw) b.nc b.np
section
variable {X : Cx} {Xw : Nat → Hp → Prop} {elt iter tg : Expr} {ifs : List Expr} {scope : Scope} {pos : Pos} {tn : List Str} {n : Nat} {δi : DA} {δt : DT} {δe : DE}
theorem pd_comp (sc : CompSc X scope tn) (hn : tn.length = max n 1) (hc : X.calm = true) (hi : PDI X Xw tg iter δi)
    (hg : ∀ pins cl C fp s₂ H σ, TgOk (compX X scope tn pins cl C fp s₂ H) tg n σ)
    (ht : ∀ pins cl C fp s₂ H, TestOk (compX X scope tn pins cl C fp s₂ H) ifs δt)
    (he : ∀ pins cl C fp s₂ H, PD (compX X scope tn pins cl C fp s₂ H) (fun _ _ => False) elt δe)
    (hs : ∀ x, foldedSetIterable iter X.env x = pure x := by intro _; rfl) :
    PD X Xw (.ListComp elt [⟨tg, iter, ifs, 0⟩] scope pos) (dComp n δi δt δe) := by
  intro pins s σ H Q I ⟨F, ρ, S, w⟩
  obtain ⟨cl, hclos, cl1, cl2⟩ := closure_of (scope := scope) (env := X.env) fun y hy hf => I.ok.has y.1 (sc.frees y hy hf)
  rw [eval_ListComp]
  refine wpAny_comprehension_free (use := none) rfl hs hclos sc.kind sc.names (comp_run (RR := fun acc C => compPost (model X.prog X.w) X.A X.xe none (EP X pins σ Q) acc C) sc hn hc hi hg ht he I S w cl1 cl2 fun s1 C D H' I1 q b => ?_)
  obtain ⟨m, hm⟩ := b.ns
  exact ⟨m, hm, fun h' hsb => ⟨.ref D, H', Inv.block I1 b hsb, rfl, q⟩⟩
end
end L3


set_option Elab.async false
set_option linter.all false
set_option maxRecDepth 100000
namespace L3
open PySem PySem.Spec L2
open PyProof.Rows hiding St

inductive Out where
  | nx (ρ : Rho) | rt (d : D)
abbrev DS := Rho → M Out
structure StOk (K : PySem.W.Frag) (F₀ H₀ F H : Hp) (σ : St) (ρ : Rho) : Prop where
  ext : Ext F₀ H₀ F H
  st : StE K F H σ ρ
  len : ρ.length = σ.length
  own : ∀ (i : Nat) (c : C) (a : Addr), ρ[i]? = some (some (.ow c)) → σ[i]? = some (some (.ref a)) → H₀ a = none
  sep : ∀ (i j : Nat) (c c' : C) (a : Addr), ρ[i]? = some (some (.ow c)) → ρ[j]? = some (some (.ow c')) → σ[i]? = some (some (.ref a)) → σ[j]? = some (some (.ref a)) → i = j
def WPS (K : PySem.W.Frag) (Xw : Nat → Hp → Prop) (F₀ H₀ : Hp) (m : M Out) (Dn : Ends) : Prop :=
  match m with
  | none => False
  | some (.ok (.nx ρ)) => ∀ σ F H, StOk K F₀ H₀ F H σ ρ → Dn.nx σ H
  | some (.ok (.rt d)) => ∀ v F H, Ext F₀ H₀ F H → Den K F d v → Dn.rt v H
  | some (.ex n) => ∀ F H, Ext F₀ H₀ F H → Xw n H
def tS (K : PySem.W.Frag) (Xw : Nat → Hp → Prop) (F₀ H₀ : Hp) (τ : DS) : TS := fun Dn σ H => ∃ F ρ, StOk K F₀ H₀ F H σ ρ ∧ WPS K Xw F₀ H₀ (τ ρ) Dn
def PSD (X : Cx) (Xw : Nat → Hp → Prop) (st : Stmt) (τ : DS) : Prop := ∀ F₀ H₀, PS X st (tS X.K Xw F₀ H₀ τ)
def PSDs (X : Cx) (Xw : Nat → Hp → Prop) (st : List Stmt) (τ : DS) : Prop := ∀ F₀ H₀, PSs X st (tS X.K Xw F₀ H₀ τ)
theorem PS.weak {X : Cx} {st : Stmt} {t t' : TS} (h : PS X st t) (k : ∀ D σ H, t' D σ H → t D σ H) : PS X st t' := fun pins s σ H D I w => h pins s σ H D I (k D σ H w)
theorem PSs.weak {X : Cx} {st : List Stmt} {t t' : TS} (h : PSs X st t) (k : ∀ D σ H, t' D σ H → t D σ H) : PSs X st t' := fun pins s σ H D I w => h pins s σ H D I (k D σ H w)

section
variable {K : PySem.W.Frag} {Xw : Nat → Hp → Prop} {F₀ H₀ F H F' H' : Hp} {σ : St} {ρ : Rho}
theorem StOk.ext' (s : StOk K F₀ H₀ F H σ ρ) (e : Ext F H F' H') : StOk K F₀ H₀ F' H' σ ρ := ⟨s.ext.trans e, s.st.ext e, s.len, s.own, s.sep⟩
theorem StOk.set (s : StOk K F₀ H₀ F H σ ρ) {i : Nat} {d : D} {v : V} (h : Den K F d v) : StOk K F₀ H₀ F H (σ.set i (some v)) (ρ.set i (some (.fz d))) := by
  have hl := s.len
  have get : ∀ (j : Nat) (sl : Sl), (ρ.set i (some (.fz d)))[j]? = some (some sl) → (j = i ∧ i < ρ.length ∧ sl = .fz d) ∨ (j ≠ i ∧ ρ[j]? = some (some sl)) := fun j sl e => by
    by_cases hj : j = i
    · subst hj
      have hi : j < ρ.length := by
        have := (List.getElem?_eq_some_iff.mp e).1
        simpa using this
      rw [List.getElem?_set_self hi] at e
      cases e
      exact .inl ⟨rfl, hi, rfl⟩
    · rw [List.getElem?_set_ne (Ne.symm hj)] at e
      exact .inr ⟨hj, e⟩
  refine ⟨s.ext, ⟨s.st.fh, fun j sl e => ?_⟩, by simp [hl], fun j c a e e' => ?_, fun j k c c' a e1 e2 e3 e4 => ?_⟩
  · rcases get j sl e with ⟨rfl, hi, rfl⟩ | ⟨hj, e⟩
    · exact ⟨v, by rw [List.getElem?_set_self (by omega)], h⟩
    · obtain ⟨u, h1, h2⟩ := s.st.den j sl e
      exact ⟨u, by rw [List.getElem?_set_ne (Ne.symm hj)]; exact h1, h2⟩
  · rcases get j _ e with ⟨_, _, z⟩ | ⟨hj, e⟩
    · cases z
    · rw [List.getElem?_set_ne (Ne.symm hj)] at e'
      exact s.own j c a e e'
  · rcases get j _ e1 with ⟨_, _, z⟩ | ⟨hj, e1⟩
    · cases z
    · rcases get k _ e2 with ⟨_, _, z⟩ | ⟨hk, e2⟩
      · cases z
      · rw [List.getElem?_set_ne (Ne.symm hj)] at e3
        rw [List.getElem?_set_ne (Ne.symm hk)] at e4
        exact s.sep j k c c' a e1 e2 e3 e4
theorem StOk.setNew (s : StOk K F₀ H₀ F H σ ρ) {i : Nat} {a : Addr} {o : HO} {c₀ : C} (n : H a = none) (h : DenC K F c₀ o) :
    StOk K F₀ H₀ F (upd H a o) (σ.set i (some (.ref a))) (ρ.set i (some (.ow c₀))) := by
  have hle := s.len
  have e0 := Ext.free (o := o) s.st.fh n
  have nF : F a = none := Same.free s.st.fh n
  have get : ∀ (j : Nat) (sl : Sl), (ρ.set i (some (.ow c₀)))[j]? = some (some sl) → (j = i ∧ i < ρ.length ∧ sl = .ow c₀) ∨ (j ≠ i ∧ ρ[j]? = some (some sl)) := fun j sl e => by
    by_cases hj : j = i
    · subst hj
      have hi : j < ρ.length := by
        have := (List.getElem?_eq_some_iff.mp e).1
        simpa using this
      rw [List.getElem?_set_self hi] at e
      cases e
      exact .inl ⟨rfl, hi, rfl⟩
    · rw [List.getElem?_set_ne (Ne.symm hj)] at e
      exact .inr ⟨hj, e⟩
  have old : ∀ (j : Nat) (c : C) (b : Addr), ρ[j]? = some (some (.ow c)) → σ[j]? = some (some (.ref b)) → b ≠ a := fun j c b e e' z => by
    obtain ⟨u, h1, b', o, h2, h3, _⟩ := s.st.den j _ e
    rw [h1] at e'
    cases e'
    cases h2
    rw [z, n] at h3
    cases h3
  refine ⟨s.ext.trans e0, ⟨e0.fh, fun j sl e => ?_⟩, by simp [hle], fun j c b e e' => ?_, fun j k c c' b e1 e2 e3 e4 => ?_⟩
  · rcases get j sl e with ⟨rfl, hi, rfl⟩ | ⟨hj, e⟩
    · exact ⟨.ref a, by rw [List.getElem?_set_self (by omega)], a, _, rfl, upd_same, nF, h⟩
    · obtain ⟨u, h1, h2⟩ := s.st.den j sl e
      exact ⟨u, by rw [List.getElem?_set_ne (Ne.symm hj)]; exact h1, h2.ext e0⟩
  · rcases get j _ e with ⟨rfl, hi, _⟩ | ⟨hj, e⟩
    · rw [List.getElem?_set_self (by omega)] at e'
      cases e'
      exact Same.free s.ext.hh n
    · rw [List.getElem?_set_ne (Ne.symm hj)] at e'
      exact s.own j c b e e'
  · rcases get j _ e1 with ⟨rfl, hi, _⟩ | ⟨hj, e1⟩
    · rw [List.getElem?_set_self (by omega)] at e3
      cases e3
      rcases get k _ e2 with ⟨rfl, _, _⟩ | ⟨hk, e2⟩
      · rfl
      · rw [List.getElem?_set_ne (Ne.symm hk)] at e4
        exact absurd rfl (old k c' a e2 e4)
    · rcases get k _ e2 with ⟨hki, hi, _⟩ | ⟨hk, e2⟩
      · rw [hki, List.getElem?_set_self (by omega)] at e4
        cases e4
        rw [List.getElem?_set_ne (Ne.symm hj)] at e3
        exact absurd rfl (old j c a (by assumption) e3)
      · rw [List.getElem?_set_ne (Ne.symm hj)] at e3
        rw [List.getElem?_set_ne (Ne.symm hk)] at e4
        exact s.sep j k c c' b e1 e2 e3 e4
theorem StOk.chg (s : StOk K F₀ H₀ F H σ ρ) {i : Nat} {a : Addr} {c c₀ : C} {o₀ : HO} (hi : ρ[i]? = some (some (.ow c))) (ha : σ[i]? = some (some (.ref a))) (h : DenC K F c₀ o₀) :
    StOk K F₀ H₀ F (upd H a o₀) σ (ρ.set i (some (.ow c₀))) := by
  have hle := s.len
  have h0 := s.own i c a hi ha
  obtain ⟨u, q1, a', o, q2, q3, q4, q5⟩ := s.st.den i _ hi
  rw [ha] at q1
  cases q1
  cases q2
  have hil : i < ρ.length := (List.getElem?_eq_some_iff.mp hi).1
  have get : ∀ (j : Nat) (sl : Sl), (ρ.set i (some (.ow c₀)))[j]? = some (some sl) → (j = i ∧ sl = .ow c₀) ∨ (j ≠ i ∧ ρ[j]? = some (some sl)) := fun j sl e => by
    by_cases hj : j = i
    · subst hj
      rw [List.getElem?_set_self hil] at e
      cases e
      exact .inl ⟨rfl, rfl⟩
    · rw [List.getElem?_set_ne (Ne.symm hj)] at e
      exact .inr ⟨hj, e⟩
  have fh : Same F (upd H a o₀) := fun b o e => by
    rw [upd_ne (fun z => by rw [z, q4] at e; cases e)]; exact s.st.fh b o e
  refine ⟨⟨fun b o e => ?_, s.ext.ff, fh, s.ext.new⟩, ⟨fh, fun j sl e => ?_⟩, by simp [hle], fun j c' b e e' => ?_, fun j k c1 c2 b e1 e2 e3 e4 => ?_⟩
  · rw [upd_ne (fun z => by rw [z, h0] at e; cases e)]; exact s.ext.hh b o e
  · rcases get j sl e with ⟨rfl, rfl⟩ | ⟨hj, e⟩
    · exact ⟨.ref a, ha, a, _, rfl, upd_same, q4, h⟩
    · obtain ⟨u, h1, h2⟩ := s.st.den j sl e
      refine ⟨u, h1, ?_⟩
      cases sl with
      | fz d => exact h2
      | ow c' =>
        obtain ⟨b, o', r1, r2, r3, r4⟩ := h2
        refine ⟨b, o', r1, ?_, r3, r4⟩
        rw [upd_ne (fun z => hj (s.sep j i c' c a e hi (by rw [h1, r1, z]) ha))]; exact r2
  · rcases get j _ e with ⟨rfl, _⟩ | ⟨hj, e⟩
    · rw [ha] at e'; cases e'; exact h0
    · exact s.own j c' b e e'
  · have k1 : ∃ c, ρ[j]? = some (some (.ow c)) := by
      rcases get j _ e1 with ⟨rfl, _⟩ | ⟨_, e⟩
      · exact ⟨c, hi⟩
      · exact ⟨_, e⟩
    have k2 : ∃ c, ρ[k]? = some (some (.ow c)) := by
      rcases get k _ e2 with ⟨rfl, _⟩ | ⟨_, e⟩
      · exact ⟨c, hi⟩
      · exact ⟨_, e⟩
    obtain ⟨_, k1⟩ := k1
    obtain ⟨_, k2⟩ := k2
    exact s.sep j k _ _ b k1 k2 e3 e4
def frz (i : Nat) (ρ : Rho) : Rho := match ρ[i]? with
  | some (some (.ow c)) => ρ.set i (some (.fz c.d))
  | _ => ρ
theorem StOk.frz (s : StOk K F₀ H₀ F H σ ρ) (i : Nat) (obj : Addr → Obj) : (∃ a o, H a = some o ∧ DenC K F (ρ[i]?.elim (.lst []) fun x => x.elim (.lst []) fun y => match y with | .ow c => c | _ => .lst []) o ∧ σ[i]? = some (some (.ref a)) ∧ StOk K F₀ H₀ (upd F a (frzO (obj a) o)) (upd H a (frzO (obj a) o)) σ (frz i ρ)) ∨ frz i ρ = ρ := by
  unfold L3.frz
  split
  · rename_i c₀ hi
    have hle := s.len
    obtain ⟨u, ha, a, o, rfl, q3, q4, hds⟩ := s.st.den i _ hi
    refine .inl ⟨a, o, q3, by rw [hi]; exact hds, ha, ?_⟩
    have h0 := s.own i _ a hi ha
    have hil : i < ρ.length := (List.getElem?_eq_some_iff.mp hi).1
    have ff : Same F (upd F a (frzO (obj a) o)) := fun b o e => by rw [upd_ne (fun z => by rw [z, q4] at e; cases e)]; exact e
    have fh : Same (upd F a (frzO (obj a) o)) (upd H a (frzO (obj a) o)) := fun b o e => by
      by_cases z : b = a
      · rw [z, upd_same] at e ⊢; exact e
      · rw [upd_ne z] at e ⊢; exact s.st.fh b o e
    have get : ∀ (j : Nat) (sl : Sl), (ρ.set i (some (.fz c₀.d)))[j]? = some (some sl) → (j = i ∧ sl = .fz c₀.d) ∨ (j ≠ i ∧ ρ[j]? = some (some sl)) := fun j sl e => by
      by_cases hj : j = i
      · subst hj
        rw [List.getElem?_set_self hil] at e
        cases e
        exact .inl ⟨rfl, rfl⟩
      · rw [List.getElem?_set_ne (Ne.symm hj)] at e
        exact .inr ⟨hj, e⟩
    refine ⟨⟨fun b u q => ?_, s.ext.ff.trans ff, fh, fun b hb => ?_⟩, ⟨fh, fun j sl e => ?_⟩, by simp [hle], fun j c' b e e' => ?_, fun j k c1 c2 b e1 e2 e3 e4 => ?_⟩
    · rw [upd_ne (fun z => by rw [z, h0] at q; cases q)]; exact s.ext.hh b u q
    · rcases s.ext.new b hb with q | q
      · exact .inl (by rw [upd_ne (fun z => hb (by rw [z]; exact h0))]; exact q)
      · exact .inr q
    · rcases get j sl e with ⟨rfl, rfl⟩ | ⟨hj, e⟩
      · exact ⟨.ref a, ha, DenC.den hds ff upd_same⟩
      · obtain ⟨u, h1, h2⟩ := s.st.den j sl e
        refine ⟨u, h1, ?_⟩
        cases sl with
        | fz d => exact Den.mono ff h2
        | ow c' =>
          obtain ⟨b, o', r1, r2, r3, r4⟩ := h2
          have hne : b ≠ a := fun z => hj (s.sep j i c' _ a e hi (by rw [h1, r1, z]) ha)
          exact ⟨b, o', r1, by rw [upd_ne hne]; exact r2, by rw [upd_ne hne]; exact r3, DenC.mono ff r4⟩
    · rcases get j _ e with ⟨_, z⟩ | ⟨hj, e⟩
      · cases z
      · exact s.own j c' b e e'
    · rcases get j _ e1 with ⟨_, z⟩ | ⟨_, e1⟩
      · cases z
      · rcases get k _ e2 with ⟨_, z⟩ | ⟨_, e2⟩
        · cases z
        · exact s.sep j k _ _ b e1 e2 e3 e4
  · exact .inr rfl
end

def join (F H : Hp) : Hp := fun a => match F a with
  | some o => some o
  | none => H a
theorem StOk.rebase {K : PySem.W.Frag} {F₀ H₀ F H : Hp} {σ : St} {ρ : Rho} (s : StOk K F₀ H₀ F H σ ρ) : StOk K F (join F H₀) F H σ ρ ∧ ∀ F' H', Ext F (join F H₀) F' H' → Ext F₀ H₀ F' H' := by
  have hj : Same (join F H₀) H := fun b o e => by
    unfold join at e
    cases q : F b with
    | some u => rw [q] at e; cases e; exact s.st.fh b _ q
    | none => rw [q] at e; exact s.ext.hh b o e
  have h0 : Same H₀ (join F H₀) := fun b o e => by
    unfold join
    cases q : F b with
    | some u =>
      have h1 := s.st.fh b u q
      rw [s.ext.hh b o e] at h1
      exact h1.symm
    | none => exact e
  refine ⟨⟨⟨hj, Same.refl _, s.st.fh, fun _ _ => .inl rfl⟩, s.st, s.len, fun i c a e e' => ?_, s.sep⟩, fun F' H' x => ⟨h0.trans x.hh, s.ext.ff.trans x.ff, x.fh, fun a ha => ?_⟩⟩
  · have h1 := s.own i c a e e'
    obtain ⟨v, q1, a', o, q2, q3, q4, _⟩ := s.st.den i _ e
    rw [e'] at q1
    cases q1
    cases q2
    unfold join
    rw [q4]
    exact h1
  · have : join F H₀ a ≠ none := by
      cases q : H₀ a with
      | none => exact absurd q ha
      | some o => rw [h0 a o q]; exact fun z => nomatch z
    rcases s.ext.new a ha with p | p
    · rcases x.new a this with q | ⟨ts, q⟩
      · exact .inl (q.trans p)
      · cases z : H₀ a with
        | none => exact absurd z ha
        | some o =>
          rw [h0 a o z] at q
          exact .inr ⟨ts, q⟩
    · exact .inr p
theorem StOk.unbase {K : PySem.W.Frag} {F₀ H₀ F U F' H' : Hp} {σ : St} {ρ : Rho} (k : ∀ F' H', Ext F U F' H' → Ext F₀ H₀ F' H') (s : StOk K F U F' H' σ ρ) (h : Same H₀ U) : StOk K F₀ H₀ F' H' σ ρ :=
  ⟨k _ _ s.ext, s.st, s.len, fun i c a e e' => Same.free h (s.own i c a e e'), s.sep⟩
theorem join_same {K : PySem.W.Frag} {F₀ H₀ F H : Hp} {σ : St} {ρ : Rho} (s : StOk K F₀ H₀ F H σ ρ) : Same H₀ (join F H₀) := fun b o e => by
  unfold join
  cases q : F b with
  | some u =>
    have h1 := s.st.fh b u q
    rw [s.ext.hh b o e] at h1
    exact h1.symm
  | none => exact e

theorem Inv.refrz {X : Cx} {pins : List (Addr × Obj)} {σ : St} {H : Hp} {s : Shared} {a : Addr} {o o' : HO} (I : Inv X pins σ H s) (e : H a = some o)
    (ho : o' = o ∨ ∃ u, o' = .frz ((s.heap.get? a).getD { cls := .none, data := .fields #[] }) u ∧ ((∃ k, o = .dT k ∧ u = .dT k) ∨ ∃ k, o = .dK k ∧ u = .dK k)) : Inv X pins σ (upd H a o') s := by
  rcases ho with rfl | ⟨u, rfl, hu⟩
  · have : upd H a o' = H := by
      funext b
      by_cases z : b = a
      · rw [z, upd_same, e]
      · rw [upd_ne z]
    rw [this]; exact I
  have hou : o = u := by rcases hu with ⟨k, h1, h2⟩ | ⟨k, h1, h2⟩ <;> rw [h1, h2]
  subst hou
  have nt : ∀ ts, o ≠ .tup ts := fun ts z => by rcases hu with ⟨k, h1, _⟩ | ⟨k, h1, _⟩ <;> rw [h1] at z <;> cases z
  have nf : ∀ ob v, o ≠ .frz ob v := fun ob v z => by rcases hu with ⟨k, h1, _⟩ | ⟨k, h1, _⟩ <;> rw [h1] at z <;> cases z
  have nb : ∀ p, o ≠ .tbl p := fun p z => by rcases hu with ⟨k, h1, _⟩ | ⟨k, h1, _⟩ <;> rw [h1] at z <;> cases z
  have no : ∀ p, o ≠ .own p := fun p z => by rcases hu with ⟨k, h1, _⟩ | ⟨k, h1, _⟩ <;> rw [h1] at z <;> cases z
  have ne : ∀ b, H b = none → b ≠ a := fun b hb z => by rw [z, e] at hb; cases hb
  have hk := I.hok a o e
  have hlt := hk.lt
  obtain ⟨ob, hob⟩ : ∃ ob, s.heap.get? a = some ob := by
    rcases hu with ⟨k, h1, _⟩ | ⟨k, h1, _⟩
    · subst h1; obtain ⟨_, _, _, _, ob, _, _, q, _⟩ := hk; exact ⟨ob, q⟩
    · subst h1; obtain ⟨_, _, _, _, ob, _, _, q, _⟩ := hk; exact ⟨ob, q⟩
  rw [hob]
  refine ⟨I.ok, I.os, I.bare, ⟨I.base.keep, I.base.slot, fun b q h1 h2 h3 => ?_, I.base.there, fun b xs q => ?_, fun b q1 v q => ?_, fun b ps q => ?_⟩, I.loc, I.cell, ?_, fun x c q => ?_, fun p hp => ?_, fun b v q => ?_, I.len⟩
  · have := I.base.free b q h1 h2 h3
    rw [upd_ne (ne b this)]; exact this
  · have := I.base.tups b xs q
    rw [upd_ne (fun z => by rw [z, e] at this; exact nt xs (Option.some.inj this))]; exact this
  · have := I.base.frzs b q1 v q
    rw [upd_ne (fun z => by rw [z, e] at this; exact nf _ _ (Option.some.inj this))]; exact this
  · obtain ⟨m, this⟩ := I.base.tbls b ps q
    exact ⟨m, by rw [upd_ne (fun z => by rw [z, e] at this; exact nb _ (Option.some.inj this))]; exact this⟩
  · rw [upd_ne (ne _ I.free)]; exact I.free
  · rw [upd_ne (ne _ (I.freeC x c q))]; exact I.freeC x c q
  · obtain ⟨h1, h2, h3⟩ := I.pin p hp
    exact ⟨h1, by rw [upd_ne (ne _ h2)]; exact h2, h3⟩
  · have st : ∀ {c : Addr} {v : HO}, ObjOk X.prog X.w H s.heap c v → ObjOk X.prog X.w (upd H a (.frz ob o)) s.heap c v := fun {c v} k => k.stay (fun _ _ _ q => q)
      (fun c' q => by rw [upd_ne (fun z => by rw [z, e] at q; exact no _ (Option.some.inj q))]; exact q) fun c' xs q => by rw [upd_ne (fun z => by rw [z, e] at q; exact nt _ (Option.some.inj q))]; exact q
    by_cases z : b = a
    · subst z
      rw [show (some ob).getD _ = ob from rfl, upd_same] at q
      cases q
      exact ⟨hob, st hk⟩
    · rw [upd_ne z] at q
      exact st (I.hok b v q)

def sSeq (a b : DS) : DS := fun ρ => a ρ >>= fun o => match o with | .nx ρ' => b ρ' | .rt d => M.ret (.rt d)
def sNil : DS := fun ρ => M.ret (.nx ρ)
def sRet (δ : DE) : DS := fun ρ => δ ρ >>= fun d => M.ret (.rt d)
def sExp (δ : DE) : DS := fun ρ => δ ρ >>= fun _ => M.ret (.nx ρ)
def sSet (i : Nat) (δ : DE) : DS := fun ρ => δ ρ >>= fun d => M.ret (.nx (ρ.set i (some (.fz d))))
def sIf (c : DT) (a b : DS) : DS := fun ρ => c ρ >>= fun x => if x then a ρ else b ρ
def sFz (i : Nat) (a : DS) : DS := fun ρ => a (frz i ρ)
def sNew (i : Nat) : DS := fun ρ => M.ret (.nx (ρ.set i (some (.ow (.lst [])))))
def ownL (ρ : Rho) (i : Nat) : Option (List D) := match ρ[i]? with
  | some (some (.ow (.lst ds))) => some ds
  | _ => none
theorem ownL_some {ρ : Rho} {i : Nat} {ds : List D} (h : ownL ρ i = some ds) : ρ[i]? = some (some (.ow (.lst ds))) := by
  unfold ownL at h
  split at h
  · rename_i ds' e
    cases h
    exact e
  · cases h
def sApp (i : Nat) (δ : DE) : DS := fun ρ => match ownL ρ i with
  | some ds => δ ρ >>= fun d => if ds.length < lim then M.ret (.nx (ρ.set i (some (.ow (.lst (ds ++ [d])))))) else M.stuck
  | none => M.stuck
def sExt (i : Nat) (δ : DE) : DS := fun ρ => match ownL ρ i with
  | some ds => δ ρ >>= fun d => lstM d >>= fun es => if ds.length + es.length ≤ lim then M.ret (.nx (ρ.set i (some (.ow (.lst (ds ++ es)))))) else M.stuck
  | none => M.stuck
def forL (put : D → Rho → Option Rho) (body : DS) : List D → DS
  | [], ρ => M.ret (.nx ρ)
  | d :: ds, ρ => (match put d ρ with | none => M.stuck | some ρ1 => body ρ1 >>= fun o => match o with | .nx ρ2 => forL put body ds ρ2 | .rt v => M.ret (.rt v))
def putN (i : Nat) : D → Rho → Option Rho := fun d ρ => some (ρ.set i (some (.fz d)))
def sFor (put : D → Rho → Option Rho) (δi : DA) (body : DS) : DS := fun ρ => δi ρ >>= fun ds => forL put body ds ρ
section
variable {X : Cx} {Xw : Nat → Hp → Prop} {F₀ H₀ : Hp} {st : Stmt} {rest : List Stmt} {τ τ' : DS} {e : Expr} {δ : DE} {pos : Pos}
theorem psd_nil : PSDs X Xw [] sNil := fun F₀ H₀ => PSs.weak pss_nil fun D σ H ⟨F, ρ, s, w⟩ => w σ F H s
theorem psd_cons (h1 : PSD X Xw st τ) (h2 : PSDs X Xw rest τ') : PSDs X Xw (st :: rest) (sSeq τ τ') := fun F₀ H₀ => PSs.weak (pss_cons (h1 F₀ H₀) (h2 F₀ H₀)) fun D σ H ⟨F, ρ, s, w⟩ => by
  refine ⟨F, ρ, s, ?_⟩
  unfold sSeq at w
  match τ ρ, w with
  | none, w => exact w
  | some (.ok (.nx ρ')), w => exact fun σ' F' H' s' => ⟨F', ρ', s', w⟩
  | some (.ok (.rt d)), w => exact w
  | some (.ex n), w => exact w
theorem psd_one (h1 : PSD X Xw st τ) : PSDs X Xw [st] τ := fun F₀ H₀ => pss_one (h1 F₀ H₀)
theorem psd_frz {i : Nat} (h : PSD X Xw st τ) : PSD X Xw st (sFz i τ) := fun F₀ H₀ pins sh σ H D I ⟨F, ρ, s, w⟩ => by
  rcases s.frz i (fun a => (sh.heap.get? a).getD { cls := .none, data := .fields #[] }) with ⟨a, o, ha, hc, hσ, s'⟩ | e
  · refine h F₀ H₀ pins sh σ _ D (L3.Inv.refrz I ha ?_) ⟨_, _, s', w⟩
    generalize (ρ[i]?.elim (C.lst []) fun x => x.elim (.lst []) fun y => match y with | .ow c => c | _ => .lst []) = c at hc
    cases c with
    | lst ds => obtain ⟨vs, rfl, _⟩ := hc; exact .inl rfl
    | dct ks ds => obtain ⟨vs, rfl, _⟩ := hc; exact .inr ⟨_, rfl, .inl ⟨_, rfl, rfl⟩⟩
    | dci ks ds => obtain ⟨vs, rfl, _⟩ := hc; exact .inr ⟨_, rfl, .inr ⟨_, rfl, rfl⟩⟩
  · exact h F₀ H₀ pins sh σ H D I ⟨F, ρ, s, by unfold sFz at w; rw [e] at w; exact w⟩
theorem psd_ret (h : PD X Xw e δ) : PSD X Xw (.Return (some e) pos) (sRet δ) := fun F₀ H₀ => PS.weak (ps_ret h) fun D σ H ⟨F, ρ, s, w⟩ => by
  refine ⟨F, ρ, s.st, ?_⟩
  unfold sRet at w
  match δ ρ, w with
  | none, w => exact w
  | some (.ok d), w => exact fun v H' F' e' q => w v F' H' (s.ext.trans e') q
  | some (.ex n), w => exact fun F' H' e' => w F' H' (s.ext.trans e')
theorem psd_exp (h : PD X Xw e δ) (hs : swapsWith e none pos.line X.env = pure false := by rfl) : PSD X Xw (.Expr e pos) (sExp δ) := fun F₀ H₀ => PS.weak (ps_expr h hs) fun D σ H ⟨F, ρ, s, w⟩ => by
  refine ⟨F, ρ, s.st, ?_⟩
  unfold sExp at w
  match δ ρ, w with
  | none, w => exact w
  | some (.ok d), w => exact fun v H' F' e' q => w σ F' H' (s.ext' e')
  | some (.ex n), w => exact fun F' H' e' => w F' H' (s.ext.trans e')
theorem psd_set {i : Nat} {x : Str} {pos' : Pos} (hN : X.N.Nodup) (hi : X.N[i]? = some x) (hx : Loc X.env.scope x) (he : PD X Xw e δ) (hf : X.fn x = true ∨ X.env.scope.names.lookup x = some .local := by first | exact .inl rfl | exact .inr rfl)
    (hs : swapsWithSole [.Name x pos'] e pos.line X.env = pure false := by rfl) :
    PSD X Xw (.Assign [.Name x pos'] e pos) (sSet i δ) := fun F₀ H₀ => PS.weak (ps_asg he (pg_name hN hi hx hf) hs) fun D σ H ⟨F, ρ, s, w⟩ => by
  refine ⟨F, ρ, s.st, ?_⟩
  unfold sSet at w
  match δ ρ, w with
  | none, w => exact w
  | some (.ok d), w => exact fun v H' F' e' q => w _ F' H' ((s.ext' e').set q)
  | some (.ex n), w => exact fun F' H' e' => w F' H' (s.ext.trans e')
theorem psd_setComp {elt iter tg : Expr} {ifs : List Expr} {scope : Scope} {cpos : Pos} {tn : List Str} {n : Nat} {δi : DA} {δt : DT} {δe : DE} {i : Nat} {x : Str} {pos' : Pos} (hN : X.N.Nodup) (hi' : X.N[i]? = some x) (hx : Loc X.env.scope x)
    (sc : CompSc X scope tn) (hn : tn.length = max n 1) (hc : X.calm = true) (hi : PDI X Xw tg iter δi)
    (hg : ∀ pins cl C fp s₂ H σ, TgOk (compX X scope tn pins cl C fp s₂ H) tg n σ)
    (ht : ∀ pins cl C fp s₂ H, TestOk (compX X scope tn pins cl C fp s₂ H) ifs δt)
    (he : ∀ pins cl C fp s₂ H, PD (compX X scope tn pins cl C fp s₂ H) (fun _ _ => False) elt δe)
    (hf : X.fn x = true ∨ X.env.scope.names.lookup x = some .local := by first | exact .inl rfl | exact .inr rfl)
    (hsw : swapsWith (.ListComp elt [⟨tg, iter, ifs, 0⟩] scope cpos) (some (.Name x pos')) pos.line X.env = pure true := by rfl)
    (hs : ∀ x, foldedSetIterable iter X.env x = pure x := by intro _; rfl) :
    PSD X Xw (.Assign [.Name x pos'] (.ListComp elt [⟨tg, iter, ifs, 0⟩] scope cpos) pos) (sSet i (dComp n δi δt δe)) := fun F₀ H₀ pins s σ H D I ⟨F, ρ, S, w⟩ => by
  obtain ⟨cl, hclos, cl1, cl2⟩ := closure_of (scope := scope) (env := X.env) fun y hy hf => I.ok.has y.1 (sc.frees y hy hf)
  have w' : WP X.K Xw F H (dComp n δi δt δe ρ) (fun v H' => D.nx (σ.set i (some v)) H') := by
    have w : WPS X.K Xw F₀ H₀ (dComp n δi δt δe ρ >>= fun d => M.ret (.nx (ρ.set i (some (.fz d))))) D := w
    match dComp n δi δt δe ρ, w with
    | none, w => exact w
    | some (.ok d), w => exact fun v H' F' e' q => w _ F' H' ((S.ext' e').set q)
    | some (.ex n), w => exact fun F' H' e' => w F' H' (S.ext.trans e')
  rw [exec_Assign_Name_used _ _ _ _ hsw]
  refine wpAny_bind (wpAny_standAt (wpAny_bind ?_))
  show wpAny _ X.A (do let _ ← comprehension (.ListComp elt [⟨tg, iter, ifs, 0⟩] scope cpos) scope X.env _ (newList []) false (eval iter X.env) (some (assign (.Name x pos') X.env))) _ _ s
  refine wpAny_bind (wpAny_mono (wpAny_comprehension_free (use := some (assign (.Name x pos') X.env)) (Q := fun _ s' => SP X pins D .next s') rfl hs hclos sc.kind sc.names
    (comp_run (RR := fun acc C => compPost (model X.prog X.w) X.A X.xe (some (assign (.Name x pos') X.env)) (fun _ s' => SP X pins D .next s') acc C) sc hn hc hi hg ht he I S.st w' cl1 cl2 fun s1 C D' H' I1 q b => ?_)) (fun _ s' hq => wpAny_pure (wpAny_pure hq)) fun _ _ e => e)
  show wpAny _ X.A (assign (.Name x pos') X.env (.ref D')) _ _ _
  refine wpAny_assign_Name (store_ok2 I1 hN hi' hx (v := .ref D') rfl (fun s2 I2 ⟨a, sb, ha⟩ => ?_) hf)
  have hCa : C ≠ a := by
    rcases ha with z | z
    · rw [z]; exact b.nl
    · exact Ne.symm (b.nc x a z)
  obtain ⟨m, hm⟩ := b.ns
  have hm2 : s2.heap.Ns C m := hm.sameBut sb hCa
  refine ⟨m, hm2, fun h' hsb => ⟨_, H', Inv.block I2 ⟨⟨m, hm2⟩, b.free, b.nl, b.nw, b.nc, b.np⟩ hsb, q⟩⟩
theorem psd_if {c : Expr} {a b : List Stmt} {tc : DT} (hc : PDT X Xw c tc) (ha : PSDs X Xw a τ) (hb : PSDs X Xw b τ') : PSD X Xw (.If c a b pos) (sIf tc τ τ') := fun F₀ H₀ => PS.weak (ps_if hc (ha F₀ H₀) (hb F₀ H₀)) fun D σ H ⟨F, ρ, s, w⟩ => by
  refine ⟨F, ρ, s.st, ?_⟩
  unfold sIf at w
  match tc ρ, w with
  | none, w => exact w
  | some (.ok true), w => exact fun H' F' e' => ⟨F', ρ, s.ext' e', w⟩
  | some (.ok false), w => exact fun H' F' e' => ⟨F', ρ, s.ext' e', w⟩
  | some (.ex n), w => exact fun F' H' e' => w F' H' (s.ext.trans e')
theorem psd_new {i : Nat} {x : Str} {pos' pos2 : Pos} (hN : X.N.Nodup) (hi : X.N[i]? = some x) (hx : Loc X.env.scope x) (hf : X.fn x = true ∨ X.env.scope.names.lookup x = some .local := by first | exact .inl rfl | exact .inr rfl) :
    PSD X Xw (.Assign [.Name x pos'] (.List [] pos2) pos) (sNew i) := fun F₀ H₀ => PS.weak (ps_asg (pe_lst pa_nil) (pg_name hN hi hx hf) rfl) fun D σ H ⟨F, ρ, s, w⟩ => by
  refine ⟨Nat.zero_le _, fun p hp => ?_⟩
  exact w _ F _ (s.setNew (c₀ := .lst []) hp ⟨[], rfl, rfl, Nat.zero_le _⟩)
def PutOk (K : PySem.W.Frag) (g : TG) (put : D → Rho → Option Rho) : Prop := ∀ (F₀ H₀ F H : Hp) (σ : St) (ρ ρ' : Rho) (d : D) (v : V) (Q : St → Hp → Prop), StOk K F₀ H₀ F H σ ρ → Den K F d v → put d ρ = some ρ' →
  (∀ σ', StOk K F₀ H₀ F H σ' ρ' → Q σ' H) → g v σ H Q
theorem put_name {K : PySem.W.Frag} {i : Nat} : PutOk K (gName i) (putN i) := fun F₀ H₀ F H σ ρ ρ' d v Q s q e k => by
  cases e
  exact k _ (s.set q)
def tSx (K : PySem.W.Frag) (Xw : Nat → Hp → Prop) (τ : DS) : TS := fun D σ H => ∃ F₀ H₀, tS K Xw F₀ H₀ τ D σ H
theorem PSDs.ex {body : List Stmt} (h : PSDs X Xw body τ) : PSs X body (tSx X.K Xw τ) := fun pins s σ H D I ⟨F₀, H₀, w⟩ => h F₀ H₀ pins s σ H D I w
theorem psd_for {tg iter : Expr} {body : List Stmt} {δi : DA} {g : TG} {put : D → Rho → Option Rho} (hp : PassesOwn (model X.prog X.w) X.A X.env X.xe) (hc : X.calm = true) (hi : PDI X Xw tg iter δi) (hg : PG X tg g) (hput : PutOk X.K g put) (hb : PSDs X Xw body τ)
    (hs : ∀ x, foldedSetIterable iter X.env x = pure x := by intro _; rfl) : PSD X Xw (.For tg iter body [] pos) (sFor put δi τ) := fun F₀ H₀ => PS.weak (ps_for hp hc hi hg hb.ex hs) fun D σ H ⟨F, ρ, s, w⟩ => by
  refine ⟨F, ρ, s.st, ?_⟩
  unfold sFor at w
  match δi ρ, w with
  | none, w => exact w
  | some (.ex n), w => exact fun F' H' e' => w F' H' (s.ext.trans e')
  | some (.ok ds), w =>
    have w : WPS X.K Xw F₀ H₀ (forL put τ ds ρ) D := w
    intro J H1 F1 e1 itd
    obtain ⟨s1, back⟩ := (s.ext' e1).rebase
    have hU := join_same (s.ext' e1)
    generalize join F1 H₀ = U at s1 back hU
    refine ⟨fun i m σ H => m = ds.length - i ∧ i ≤ ds.length ∧ ∃ F ρ, StOk X.K F1 U F H σ ρ ∧ WPS X.K Xw F₀ H₀ (forL put τ (ds.drop i) ρ) D, ⟨ds.length, by simp, Nat.zero_le _, F1, ρ, s1, by simpa using w⟩, ?_⟩
    rintro i m σ2 H2 ⟨rfl, hile, F2, ρ2, s2, w2⟩
    by_cases hlt : i < ds.length
    · obtain ⟨d, hd⟩ : ∃ d, ds[i]? = some d := ⟨_, List.getElem?_eq_getElem hlt⟩
      obtain ⟨hgo, hyld⟩ := (itd F2 H2 i s2.ext.ff s2.st.fh).1 d hd
      have ed : ds.drop i = d :: ds.drop (i + 1) := by
        obtain ⟨hi, e⟩ := List.getElem?_eq_some_iff.mp hd
        rw [List.drop_eq_getElem_cons hi, e]
      rw [ed] at w2
      unfold forL at w2
      refine .inr ⟨hgo, fun σ' H' => ∃ F' ρ', StOk X.K F1 U F' H' σ' ρ' ∧ WPS X.K Xw F₀ H₀ (forL put τ (ds.drop (i + 1)) ρ') D, fun σ' H' ⟨F', ρ', h2, h3⟩ => ⟨ds.length - (i + 1), by omega, rfl, hlt, F', ρ', h2, h3⟩, fun x H3 y3 => ?_⟩
      obtain ⟨F3, ex3, q3⟩ := hyld x H3 y3
      match hpd : put d ρ2, w2 with
      | none, w2 => exact w2.elim
      | some ρ3, w2 =>
        refine hput F1 U F3 H3 σ2 ρ2 ρ3 d x _ (s2.ext' ex3) q3 hpd fun σ3 s3 => ⟨F1, U, F3, ρ3, s3, ?_⟩
        have w2 : WPS X.K Xw F₀ H₀ (τ ρ3 >>= fun o => match o with | .nx ρ2 => forL put τ (ds.drop (i + 1)) ρ2 | .rt v => M.ret (.rt v)) D := w2
        match τ ρ3, w2 with
        | none, w2 => exact w2
        | some (.ok (.nx ρ')), w2 => exact fun σ' F' H' s' => ⟨F', ρ', s', w2⟩
        | some (.ok (.rt d)), w2 => exact fun v F' H' e q => w2 v F' H' (back _ _ e) q
        | some (.ex n), w2 => exact fun F' H' e => w2 F' H' (back _ _ e)
    · have hi : i = ds.length := by omega
      subst hi
      rw [List.drop_length] at w2
      exact .inl ⟨(itd F2 H2 ds.length s2.ext.ff s2.st.fh).2 (Nat.le_refl _), w2 σ2 F2 H2 (s2.unbase back hU)⟩
end
end L3


set_option Elab.async false
set_option linter.all false
set_option maxRecDepth 100000
namespace L3
open PySem PySem.Spec L2
open PyProof.Rows hiding St

def gI (f : Int → Int → D) : D → D → M D
  | .int i, .int j => M.ret (f i j)
  | _, _ => M.stuck
def gIC (c : Int → Int → Bool) (f : Int → Int → D) : D → D → M D
  | .int i, .int j => if c i j then M.ret (f i j) else M.stuck
  | _, _ => M.stuck
theorem opd_I {K : PySem.W.Frag} {gv : Int → Int → V} {gd : Int → Int → D} (h : ∀ F i j, Den K F (gd i j) (gv i j)) : OpD K (rI0 gv) (gI gd) := fun Xw F H x y dx dy Q s hx hy w => by
  unfold gI at w
  split at w
  · rename_i i j
    exact ⟨i, j, hx, hy, WP.now w s (h F i j)⟩
  · exact w.elim
theorem opd_IC {K : PySem.W.Frag} {gv : Int → Int → V} {gd : Int → Int → D} {c : Int → Int → Bool} {C : Int → Int → Prop} (h : ∀ F i j, Den K F (gd i j) (gv i j)) (hc : ∀ i j, c i j = true → C i j) : OpD K (rI C gv) (gIC c gd) := fun Xw F H x y dx dy Q s hx hy w => by
  unfold gIC at w
  split at w
  · rename_i i j
    split at w
    · rename_i hcc
      exact ⟨i, j, hx, hy, hc i j hcc, WP.now w s (h F i j)⟩
    · exact w.elim
  · exact w.elim
def gAdd := gI fun i j => .int (i + j)
def gSub := gI fun i j => .int (i - j)
def gMul := gIC (fun i j => decide ((-(2 ^ 64) < i ∧ i < 2 ^ 64) ∨ (-(2 ^ 64) < j ∧ j < 2 ^ 64))) fun i j => .int (i * j)
def gDiv := gIC (fun _ j => decide (0 < j ∧ j < 1073741824)) fun i j => .int (i / j)
def gMod := gIC (fun _ j => decide (0 < j)) fun i j => .int (i % j)
def gLe := gI fun i j => .bl (decide (i ≤ j))
def gGt := gI fun i j => .bl (decide (j < i))
section
variable {X : Cx} {Xw : Nat → Hp → Prop} {a b : Expr} {δa δb : DE} {pos : Pos}
theorem pd_add (ha : PD X Xw a δa) (hb : PD X Xw b δb) : PD X Xw (.BinOp a .Add b pos) (d2 gAdd δa δb) := pd_op op_add (opd_I fun _ _ _ => rfl) ha hb
theorem pd_sub (ha : PD X Xw a δa) (hb : PD X Xw b δb) : PD X Xw (.BinOp a .Sub b pos) (d2 gSub δa δb) := pd_op op_sub (opd_I fun _ _ _ => rfl) ha hb
theorem pd_mul (ha : PD X Xw a δa) (hb : PD X Xw b δb) : PD X Xw (.BinOp a .Mult b pos) (d2 gMul δa δb) := pd_op op_mul (opd_IC (fun _ _ _ => rfl) fun i j h => by unfold CMul; exact of_decide_eq_true h) ha hb
theorem pd_div (ha : PD X Xw a δa) (hb : PD X Xw b δb) : PD X Xw (.BinOp a .FloorDiv b pos) (d2 gDiv δa δb) := pd_op op_fdiv (opd_IC (fun _ _ _ => rfl) fun i j h => by unfold CDiv; exact of_decide_eq_true h) ha hb
theorem pd_mod (ha : PD X Xw a δa) (hb : PD X Xw b δb) : PD X Xw (.BinOp a .Mod b pos) (d2 gMod δa δb) := pd_op op_mod (opd_IC (fun _ _ _ => rfl) fun i j h => of_decide_eq_true h) ha hb
theorem pt_gt (ha : PD X Xw a δa) (hb : PD X Xw b δb) : PDT X Xw (.Compare a [.Gt] [b] pos) (tB' (d2 gGt δa δb)) := pt_cmp' op_gt (opd_I fun _ _ _ => rfl) ha hb
def gIxL : D → D → M D
  | .lst ds, .int i => match atI ds i with | some d => M.ret d | none => M.stuck
  | _, _ => M.stuck
def gIxT : D → D → M D
  | .tup ds, .int i => match atI ds i with | some d => M.ret d | none => M.stuck
  | _, _ => M.stuck
def gIxP : D → D → M D
  | .scr ns, .int i => match atI ns i with | some n => M.ret (.int n) | none => M.stuck
  | _, _ => M.stuck
def gIxS : D → D → M D
  | .str x, .int i => match atI x.cps.toList i with | some c => M.ret (.str ⟨#[c]⟩) | none => M.stuck
  | _, _ => M.stuck
theorem DenL.atI {K : PySem.W.Frag} {F : Hp} {ds : List D} {vs : List V} (h : DenL K F ds vs) {i : Int} {d : D} (e : L2.atI ds i = some d) : ∃ v, L2.atI vs i = some v ∧ Den K F d v := by
  unfold L2.atI at e ⊢
  rw [← h.len]
  cases q : ixN ds.length i with
  | none => rw [q] at e; cases e
  | some j =>
    rw [q] at e
    exact h.get e
theorem opd_ixL {K : PySem.W.Frag} : OpD K (rIxL K) gIxL := fun Xw F H x y dx dy Q s hx hy w => by
  unfold gIxL at w
  split at w
  · rename_i ds i
    obtain ⟨a, vs, h1, h2, h3, h4⟩ := hx
    split at w
    · rename_i d e
      obtain ⟨v, e1, q⟩ := h3.atI e
      exact ⟨a, vs, i, v, h1, hy, SqL.of (s _ _ h2), e1, WP.now w s q⟩
    · exact w.elim
  · exact w.elim
theorem opd_ixT {K : PySem.W.Frag} : OpD K (rIxT K) gIxT := fun Xw F H x y dx dy Q s hx hy w => by
  unfold gIxT at w
  split at w
  · rename_i ds i
    obtain ⟨a, vs, h1, h2, h3, h4⟩ := hx
    split at w
    · rename_i d e
      obtain ⟨v, e1, q⟩ := h3.atI e
      exact ⟨a, vs, i, v, h1, hy, SqT.of (s _ _ h2), e1, WP.now w s q⟩
    · exact w.elim
  · exact w.elim
theorem opd_ixP {K : PySem.W.Frag} : OpD K (rIxL K) gIxP := fun Xw F H x y dx dy Q s hx hy w => by
  unfold gIxP at w
  split at w
  · rename_i ns i
    obtain ⟨a, h1, h2, h3⟩ := hx
    split at w
    · rename_i n e
      refine ⟨a, _, i, .int n, h1, hy, Same.seq s h2, ?_, WP.now w s rfl⟩
      unfold L2.atI at e ⊢
      rw [List.length_map]
      cases q : ixN ns.length i with
      | none => rw [q] at e; cases e
      | some j =>
        rw [q] at e
        have e : ns[j]? = some n := e
        show (ns.map V.int)[j]? = some (.int n)
        rw [List.getElem?_map, e]; rfl
    · exact w.elim
  · exact w.elim
theorem opd_ixS {K : PySem.W.Frag} : OpD K rIxS gIxS := fun Xw F H x y dx dy Q s hx hy w => by
  unfold gIxS at w
  split at w
  · rename_i z i
    obtain ⟨h1, h2⟩ := hx
    split at w
    · rename_i c e
      exact ⟨z, i, c, h1, hy, by have := lim_lt; omega, e, WP.now w s ⟨rfl, by show 1 ≤ lim; decide⟩⟩
    · exact w.elim
  · exact w.elim
theorem pd_ixL (ha : PD X Xw a δa) (hb : PD X Xw b δb) (hs : PlainIx b := by intro _ _; rfl) : PD X Xw (.Subscript a b pos) (d2 gIxL δa δb) := pd_ix ix_list opd_ixL ha hb hs
theorem pd_ixP (ha : PD X Xw a δa) (hb : PD X Xw b δb) (hs : PlainIx b := by intro _ _; rfl) : PD X Xw (.Subscript a b pos) (d2 gIxP δa δb) := pd_ix ix_list opd_ixP ha hb hs
theorem pd_ixT (ha : PD X Xw a δa) (hb : PD X Xw b δb) (hs : PlainIx b := by intro _ _; rfl) : PD X Xw (.Subscript a b pos) (d2 gIxT δa δb) := pd_ix ix_tup opd_ixT ha hb hs
theorem pd_ixS (ha : PD X Xw a δa) (hb : PD X Xw b δb) (hs : PlainIx b := by intro _ _; rfl) : PD X Xw (.Subscript a b pos) (d2 gIxS δa δb) := pd_ix ix_str opd_ixS ha hb hs
def gCatL : D → D → M D
  | .lst x, .lst y => if x.length + y.length ≤ lim then M.ret (.lst (x ++ y)) else M.stuck
  | _, _ => M.stuck
theorem str_len_append (x y : Str) : (x ++ y).length = x.length + y.length := by
  show (x.cps ++ y.cps).size = _
  simp [Str.length]
theorem pd_catL (ha : PD X Xw a δa) (hb : PD X Xw b δb) : PD X Xw (.BinOp a .Add b pos) (d2 gCatL δa δb) := pd_op op_cat (fun Xw F H x y dx dy Q s hx hy w => by
  unfold gCatL at w
  split at w
  · rename_i i j
    obtain ⟨a, vs, h1, h2, h3, h4⟩ := hx
    obtain ⟨a', vs', k1, k2, k3, k4⟩ := hy
    split at w
    · rename_i hl
      have e1 := h3.len
      have e2 := k3.len
      have := lim_lt
      refine ⟨a, a', vs, vs', h1, k1, s _ _ h2, s _ _ k2, by omega, fun p hp => ?_⟩
      exact WP.fin w (Ext.lay s hp) ⟨p, _, rfl, upd_same, DenL.mono (Ext.lay s hp).ff (h3.append k3), by rw [List.length_append]; exact hl⟩
    · exact w.elim
  · exact w.elim) ha hb
end
end L3


set_option Elab.async false
set_option linter.all false
set_option maxRecDepth 100000
namespace L3
open PySem PySem.Spec L2 SeqAt
open PyProof.Rows hiding St

def eqL (f : D → D → Option Bool) : List D → List D → Option Bool
  | [], [] => some true
  | x :: xs, y :: ys => match f x y, eqL f xs ys with
    | some b, some r => some (b && r)
    | _, _ => none
  | [], _ :: _ => some false
  | _ :: _, [] => some false
def eqFlat : D → D → Option Bool
  | .non, .non => some true
  | .bl a, .bl b => some (a == b)
  | .bl a, .int j => some ((if a then 1 else 0) == j)
  | .int i, .bl b => some (i == (if b then 1 else 0))
  | .int i, .int j => some (i == j)
  | .str x, .str y => some (x == y)
  | .non, .bl _ => some false
  | .non, .int _ => some false
  | .non, .str _ => some false
  | .non, .lst _ => some false
  | .non, .tup _ => some false
  | .bl _, .non => some false
  | .bl _, .str _ => some false
  | .bl _, .lst _ => some false
  | .bl _, .tup _ => some false
  | .int _, .non => some false
  | .int _, .str _ => some false
  | .int _, .lst _ => some false
  | .int _, .tup _ => some false
  | .str _, .non => some false
  | .str _, .bl _ => some false
  | .str _, .int _ => some false
  | .str _, .lst _ => some false
  | .str _, .tup _ => some false
  | .lst _, .non => some false
  | .lst _, .bl _ => some false
  | .lst _, .int _ => some false
  | .lst _, .str _ => some false
  | .lst _, .tup _ => some false
  | .tup _, .non => some false
  | .tup _, .bl _ => some false
  | .tup _, .int _ => some false
  | .tup _, .str _ => some false
  | .tup _, .lst _ => some false
  | _, _ => none
def eqF : Nat → D → D → Option Bool
  | n + 1, .tup xs, .tup ys => eqL (eqF n) xs ys
  | n + 1, .lst xs, .lst ys => eqL (eqF n) xs ys
  | n + 1, .scr xs, .lst ys => eqL (eqF n) (xs.map D.int) ys
  | _, x, y => eqFlat x y

structure EqAll (A : Around) (s : Shared) (u v : Value) (b : Bool) : Prop where
  rc : RcAt A s u v b
  ne : RcNeAt A s u v (!b)
  eq : EqAt A s u v b
section
variable {X : Cx} {pins : List (Addr × Obj)} {σ : St} {F H : Hp} {s : Shared} {A : Around}
theorem tup_at (I : Inv X pins σ H s) (hs : Same F H) {ds : List D} {v : V} {u : Value} (h : Den X.K F (.tup ds) v) (r : RelV v u) : ∃ a vs its, u = .ref a ∧ v = .ref a ∧ F a = some (.tup vs) ∧ DenL X.K F ds vs ∧ Vals vs its ∧ s.heap.IsTuple a its.toArray := by
  obtain ⟨a, vs, rfl, h2, h3, h4⟩ := h
  obtain ⟨its, r1, p1, _⟩ := I.tuple (SqT.of (hs _ _ h2))
  exact ⟨a, vs, its, r, rfl, h2, h3, r1, p1⟩
theorem lst_at (I : Inv X pins σ H s) (hs : Same F H) {ds : List D} {v : V} {u : Value} (h : Den X.K F (.lst ds) v) (r : RelV v u) : ∃ a vs its, u = .ref a ∧ v = .ref a ∧ F a = some (.lst vs) ∧ DenL X.K F ds vs ∧ Vals vs its ∧ s.heap.IsList a its.toArray := by
  obtain ⟨a, vs, rfl, h2, h3, h4⟩ := h
  obtain ⟨its, r1, p1, _⟩ := I.list (SqL.of (hs _ _ h2))
  exact ⟨a, vs, its, r, rfl, h2, h3, r1, p1.isList⟩
theorem scr_at (I : Inv X pins σ H s) (hs : Same F H) {ns : List Int} {v : V} {u : Value} (h : Den X.K F (.scr ns) v) (r : RelV v u) : ∃ a its, u = .ref a ∧ v = .ref a ∧ SqL X.K F a (ns.map V.int) ∧ Vals (ns.map V.int) its ∧ s.heap.IsList a its.toArray := by
  obtain ⟨a, rfl, h2, h3⟩ := h
  obtain ⟨its, r1, p1, _⟩ := I.list (Same.seq hs h2)
  exact ⟨a, its, r, rfl, h2, r1, p1.isList⟩
theorem flat_all (I : Inv X pins σ H s) (hs : Same F H) (hu : A.units < cLine) {x y : D} {v w : V} {u t : Value} {b : Bool} (hx : Den X.K F x v) (hy : Den X.K F y w) (rx : RelV v u) (ry : RelV w t) (e : eqFlat x y = some b) : EqAll A s u t b := by
  cases x with
  | non =>
    cases y with
    | non =>
      cases e
      cases (show _ = _ from hx)
      cases rx
      cases (show _ = _ from hy)
      cases ry
      exact ⟨RcAt.none_none, RcNeAt.none_none, EqAt.same _⟩
    | bl d =>
      cases e
      cases (show _ = _ from hx)
      cases rx
      cases (show _ = _ from hy)
      cases ry
      exact ⟨RcAt.none_bool _, RcNeAt.none_bool _, EqAt.none_bool _⟩
    | int d =>
      cases e
      cases (show _ = _ from hx)
      cases rx
      cases (show _ = _ from hy)
      obtain ⟨t2, rfl⟩ := ry
      exact ⟨RcAt.none_int _ _, RcNeAt.none_int _ _, EqAt.none_int _ _⟩
    | str d =>
      cases e
      cases (show _ = _ from hx)
      cases rx
      cases (show _ = _ from hy.1)
      obtain ⟨t2, rfl⟩ := ry
      exact ⟨RcAt.none_str _ _, RcNeAt.none_str _ _, EqAt.none_str _ _⟩
    | raw d => cases e
    | dct _ _ => cases e
    | dci _ _ => cases e
    | exc d => cases e
    | scr d => cases e
    | tup d =>
      cases e
      cases (show _ = _ from hx)
      cases rx
      obtain ⟨a2, _, _, rfl, _, _, _, _, p2⟩ := tup_at I hs hy ry
      exact ⟨RcAt.none_tuple p2 hu, RcNeAt.none_tuple p2 hu, EqAt.none_tuple p2 hu⟩
    | lst d =>
      cases e
      cases (show _ = _ from hx)
      cases rx
      obtain ⟨a2, _, _, rfl, _, _, _, _, p2⟩ := lst_at I hs hy ry
      exact ⟨RcAt.none_list p2 hu, RcNeAt.none_list p2 hu, EqAt.none_list p2 hu⟩
  | bl c =>
    cases y with
    | non =>
      cases e
      cases (show _ = _ from hx)
      cases rx
      cases (show _ = _ from hy)
      cases ry
      exact ⟨RcAt.bool_none _, RcNeAt.bool_none _, EqAt.bool_none _⟩
    | bl d =>
      cases e
      cases (show _ = _ from hx)
      cases rx
      cases (show _ = _ from hy)
      cases ry
      exact ⟨RcAt.bool_bool _ _, RcNeAt.bool_bool _ _, EqAt.bool_bool _ _⟩
    | int d =>
      cases e
      cases (show _ = _ from hx)
      cases rx
      cases (show _ = _ from hy)
      obtain ⟨t2, rfl⟩ := ry
      exact ⟨RcAt.bool_int _ _ _, RcNeAt.bool_int _ _ _, EqAt.bool_int _ _ _⟩
    | str d =>
      cases e
      cases (show _ = _ from hx)
      cases rx
      cases (show _ = _ from hy.1)
      obtain ⟨t2, rfl⟩ := ry
      exact ⟨RcAt.bool_str _ _ _, RcNeAt.bool_str _ _ _, EqAt.bool_str _ _ _⟩
    | raw d => cases e
    | dct _ _ => cases e
    | dci _ _ => cases e
    | exc d => cases e
    | scr d => cases e
    | tup d =>
      cases e
      cases (show _ = _ from hx)
      cases rx
      obtain ⟨a2, _, _, rfl, _, _, _, _, p2⟩ := tup_at I hs hy ry
      exact ⟨RcAt.bool_tuple _ p2 hu, RcNeAt.bool_tuple _ p2 hu, EqAt.bool_tuple _ p2 hu⟩
    | lst d =>
      cases e
      cases (show _ = _ from hx)
      cases rx
      obtain ⟨a2, _, _, rfl, _, _, _, _, p2⟩ := lst_at I hs hy ry
      exact ⟨RcAt.bool_list _ p2 hu, RcNeAt.bool_list _ p2 hu, EqAt.bool_list _ p2 hu⟩
  | int c =>
    cases y with
    | non =>
      cases e
      cases (show _ = _ from hx)
      obtain ⟨t1, rfl⟩ := rx
      cases (show _ = _ from hy)
      cases ry
      exact ⟨RcAt.int_none _ _, RcNeAt.int_none _ _, EqAt.int_none _ _⟩
    | bl d =>
      cases e
      cases (show _ = _ from hx)
      obtain ⟨t1, rfl⟩ := rx
      cases (show _ = _ from hy)
      cases ry
      exact ⟨RcAt.int_bool _ _ _, RcNeAt.int_bool _ _ _, EqAt.int_bool _ _ _⟩
    | int d =>
      cases e
      cases (show _ = _ from hx)
      obtain ⟨t1, rfl⟩ := rx
      cases (show _ = _ from hy)
      obtain ⟨t2, rfl⟩ := ry
      exact ⟨RcAt.int_int _ _ _ _, RcNeAt.int_int _ _ _ _, EqAt.int_int _ _ _ _⟩
    | str d =>
      cases e
      cases (show _ = _ from hx)
      obtain ⟨t1, rfl⟩ := rx
      cases (show _ = _ from hy.1)
      obtain ⟨t2, rfl⟩ := ry
      exact ⟨RcAt.int_str _ _ _ _, RcNeAt.int_str _ _ _ _, EqAt.int_str _ _ _ _⟩
    | raw d => cases e
    | dct _ _ => cases e
    | dci _ _ => cases e
    | exc d => cases e
    | scr d => cases e
    | tup d =>
      cases e
      cases (show _ = _ from hx)
      obtain ⟨t1, rfl⟩ := rx
      obtain ⟨a2, _, _, rfl, _, _, _, _, p2⟩ := tup_at I hs hy ry
      exact ⟨RcAt.int_tuple _ _ p2 hu, RcNeAt.int_tuple _ _ p2 hu, EqAt.int_tuple _ _ p2 hu⟩
    | lst d =>
      cases e
      cases (show _ = _ from hx)
      obtain ⟨t1, rfl⟩ := rx
      obtain ⟨a2, _, _, rfl, _, _, _, _, p2⟩ := lst_at I hs hy ry
      exact ⟨RcAt.int_list _ _ p2 hu, RcNeAt.int_list _ _ p2 hu, EqAt.int_list _ _ p2 hu⟩
  | str c =>
    cases y with
    | non =>
      cases e
      cases (show _ = _ from hx.1)
      obtain ⟨t1, rfl⟩ := rx
      cases (show _ = _ from hy)
      cases ry
      exact ⟨RcAt.str_none _ _, RcNeAt.str_none _ _, EqAt.str_none _ _⟩
    | bl d =>
      cases e
      cases (show _ = _ from hx.1)
      obtain ⟨t1, rfl⟩ := rx
      cases (show _ = _ from hy)
      cases ry
      exact ⟨RcAt.str_bool _ _ _, RcNeAt.str_bool _ _ _, EqAt.str_bool _ _ _⟩
    | int d =>
      cases e
      cases (show _ = _ from hx.1)
      obtain ⟨t1, rfl⟩ := rx
      cases (show _ = _ from hy)
      obtain ⟨t2, rfl⟩ := ry
      exact ⟨RcAt.str_int _ _ _ _, RcNeAt.str_int _ _ _ _, EqAt.str_int _ _ _ _⟩
    | str d =>
      cases e
      cases (show _ = _ from hx.1)
      obtain ⟨t1, rfl⟩ := rx
      cases (show _ = _ from hy.1)
      obtain ⟨t2, rfl⟩ := ry
      exact ⟨RcAt.str_str _ _ _ _, RcNeAt.str_str _ _ _ _, EqAt.str_str _ _ _ _⟩
    | raw d => cases e
    | dct _ _ => cases e
    | dci _ _ => cases e
    | exc d => cases e
    | scr d => cases e
    | tup d =>
      cases e
      cases (show _ = _ from hx.1)
      obtain ⟨t1, rfl⟩ := rx
      obtain ⟨a2, _, _, rfl, _, _, _, _, p2⟩ := tup_at I hs hy ry
      exact ⟨RcAt.str_tuple _ _ p2 hu, RcNeAt.str_tuple _ _ p2 hu, EqAt.str_tuple _ _ p2 hu⟩
    | lst d =>
      cases e
      cases (show _ = _ from hx.1)
      obtain ⟨t1, rfl⟩ := rx
      obtain ⟨a2, _, _, rfl, _, _, _, _, p2⟩ := lst_at I hs hy ry
      exact ⟨RcAt.str_list _ _ p2 hu, RcNeAt.str_list _ _ p2 hu, EqAt.str_list _ _ p2 hu⟩
  | raw _ => cases y <;> cases e
  | dct _ _ => cases y <;> cases e
  | dci _ _ => cases y <;> cases e
  | exc _ => cases y <;> cases e
  | scr c => cases y <;> cases e
  | tup c =>
    cases y with
    | non =>
      cases e
      obtain ⟨a1, _, _, rfl, _, _, _, _, p1⟩ := tup_at I hs hx rx
      cases (show _ = _ from hy)
      cases ry
      exact ⟨RcAt.tuple_none p1 hu, RcNeAt.tuple_none p1 hu, EqAt.tuple_none p1 hu⟩
    | bl d =>
      cases e
      obtain ⟨a1, _, _, rfl, _, _, _, _, p1⟩ := tup_at I hs hx rx
      cases (show _ = _ from hy)
      cases ry
      exact ⟨RcAt.tuple_bool _ p1 hu, RcNeAt.tuple_bool _ p1 hu, EqAt.tuple_bool _ p1 hu⟩
    | int d =>
      cases e
      obtain ⟨a1, _, _, rfl, _, _, _, _, p1⟩ := tup_at I hs hx rx
      cases (show _ = _ from hy)
      obtain ⟨t2, rfl⟩ := ry
      exact ⟨RcAt.tuple_int _ _ p1 hu, RcNeAt.tuple_int _ _ p1 hu, EqAt.tuple_int _ _ p1 hu⟩
    | str d =>
      cases e
      obtain ⟨a1, _, _, rfl, _, _, _, _, p1⟩ := tup_at I hs hx rx
      cases (show _ = _ from hy.1)
      obtain ⟨t2, rfl⟩ := ry
      exact ⟨RcAt.tuple_str _ _ p1 hu, RcNeAt.tuple_str _ _ p1 hu, EqAt.tuple_str _ _ p1 hu⟩
    | raw d => cases e
    | dct _ _ => cases e
    | dci _ _ => cases e
    | exc d => cases e
    | scr d => cases e
    | tup d => cases e
    | lst d =>
      cases e
      obtain ⟨a1, _, _, rfl, _, _, _, _, p1⟩ := tup_at I hs hx rx
      obtain ⟨a2, _, _, rfl, _, _, _, _, p2⟩ := lst_at I hs hy ry
      exact ⟨RcAt.tuple_list p1 p2 hu, RcNeAt.tuple_list p1 p2 hu, EqAt.tuple_list p1 p2 hu⟩
  | lst c =>
    cases y with
    | non =>
      cases e
      obtain ⟨a1, _, _, rfl, _, _, _, _, p1⟩ := lst_at I hs hx rx
      cases (show _ = _ from hy)
      cases ry
      exact ⟨RcAt.list_none p1 hu, RcNeAt.list_none p1 hu, EqAt.list_none p1 hu⟩
    | bl d =>
      cases e
      obtain ⟨a1, _, _, rfl, _, _, _, _, p1⟩ := lst_at I hs hx rx
      cases (show _ = _ from hy)
      cases ry
      exact ⟨RcAt.list_bool _ p1 hu, RcNeAt.list_bool _ p1 hu, EqAt.list_bool _ p1 hu⟩
    | int d =>
      cases e
      obtain ⟨a1, _, _, rfl, _, _, _, _, p1⟩ := lst_at I hs hx rx
      cases (show _ = _ from hy)
      obtain ⟨t2, rfl⟩ := ry
      exact ⟨RcAt.list_int _ _ p1 hu, RcNeAt.list_int _ _ p1 hu, EqAt.list_int _ _ p1 hu⟩
    | str d =>
      cases e
      obtain ⟨a1, _, _, rfl, _, _, _, _, p1⟩ := lst_at I hs hx rx
      cases (show _ = _ from hy.1)
      obtain ⟨t2, rfl⟩ := ry
      exact ⟨RcAt.list_str _ _ p1 hu, RcNeAt.list_str _ _ p1 hu, EqAt.list_str _ _ p1 hu⟩
    | raw d => cases e
    | dct _ _ => cases e
    | dci _ _ => cases e
    | exc d => cases e
    | scr d => cases e
    | tup d =>
      cases e
      obtain ⟨a1, _, _, rfl, _, _, _, _, p1⟩ := lst_at I hs hx rx
      obtain ⟨a2, _, _, rfl, _, _, _, _, p2⟩ := tup_at I hs hy ry
      exact ⟨RcAt.list_tuple p1 p2 hu, RcNeAt.list_tuple p1 p2 hu, EqAt.list_tuple p1 p2 hu⟩
    | lst d => cases e
end

def ev (f : D → D → Option Bool) (xs ys : List D) (j : Nat) : Bool := match xs[j]?, ys[j]? with
  | some x, some y => (f x y).getD false
  | _, _ => false
theorem eqL_some {f : D → D → Option Bool} : ∀ {xs ys : List D} {b : Bool}, eqL f xs ys = some b → ∀ (j : Nat) (x y : D), xs[j]? = some x → ys[j]? = some y → ∃ c, f x y = some c
  | [], _, _, _, _, _, _, h, _ => by simp at h
  | _ :: _, [], _, _, _, _, _, _, h => by simp at h
  | x :: xs, y :: ys, b, e, j, x', y', hx, hy => by
    unfold eqL at e
    split at e
    · rename_i b1 r1 e1 e2
      cases j with
      | zero => simp at hx hy; subst hx hy; exact ⟨_, e1⟩
      | succ j => exact eqL_some e2 j x' y' (by simpa using hx) (by simpa using hy)
    · cases e
theorem eqL_val {f : D → D → Option Bool} : ∀ {xs ys : List D} {b : Bool}, eqL f xs ys = some b → b = ((List.range (min xs.length ys.length)).all (ev f xs ys) && xs.length == ys.length)
  | [], [], _, e => by cases e; rfl
  | [], _ :: _, _, e => by cases e; simp
  | _ :: _, [], _, e => by cases e; simp
  | x :: xs, y :: ys, b, e => by
    unfold eqL at e
    split at e
    · rename_i b1 r1 e1 e2
      cases e
      have h := eqL_val e2
      rw [List.length_cons, List.length_cons, Nat.succ_min_succ, List.range_succ_eq_map, List.all_cons, List.all_map]
      have e0 : ev f (x :: xs) (y :: ys) 0 = b1 := by unfold ev; simp [e1]
      have e3 : (ev f (x :: xs) (y :: ys) ∘ Nat.succ) = ev f xs ys := by funext j; simp [ev, Function.comp]
      have e4 : (xs.length + 1 == ys.length + 1) = (xs.length == ys.length) := by simp
      rw [e0, e3, e4, h, Bool.and_assoc]
    · cases e
section
variable {X : Cx} {pins : List (Addr × Obj)} {σ : St} {F H : Hp} {s : Shared}
theorem eqL_refl {f : D → D → Option Bool} (h : ∀ x y v b, Den X.K F x v → Den X.K F y v → f x y = some b → b = true) : ∀ {xs ys : List D} {vs : List V} {b : Bool}, DenL X.K F xs vs → DenL X.K F ys vs → eqL f xs ys = some b → b = true
  | [], [], _, _, _, _, e => by cases e; rfl
  | [], _ :: _, _, _, h1, h2, _ => by
    cases (show _ = _ from h1)
    obtain ⟨v, r, z, _⟩ := h2
    cases z
  | _ :: _, [], _, _, h1, h2, _ => by
    cases (show _ = _ from h2)
    obtain ⟨v, r, z, _⟩ := h1
    cases z
  | x :: xs, y :: ys, _, b, ⟨v, r, e1, q1, q2⟩, ⟨v', r', e2, q3, q4⟩, e => by
    subst e1
    cases e2
    unfold eqL at e
    split at e
    · rename_i b1 r1 f1 f2
      cases e
      rw [h x y v b1 q1 q3 f1, eqL_refl h q2 q4 f2]
      rfl
    · cases e
theorem flat_refl {x y : D} {v : V} {b : Bool} (hx : Den X.K F x v) (hy : Den X.K F y v) (e : eqFlat x y = some b) : b = true := by
  cases x <;> cases y <;> first
    | (cases e; done)
    | (cases e; cases (show _ = _ from hx); cases (show _ = _ from hy); first | rfl | simp)
    | (cases e; cases (show _ = _ from hx.1); cases (show _ = _ from hy.1); simp)
    | (cases e; cases (show _ = _ from hx); cases (show _ = _ from hy.1))
    | (cases e; cases (show _ = _ from hx.1); cases (show _ = _ from hy))
    | (cases e; obtain ⟨_, _, z, _⟩ := hx; subst z; cases (show _ = _ from hy); done)
    | (cases e; obtain ⟨_, _, z, _⟩ := hx; subst z; cases (show _ = _ from hy.1); done)
    | (cases e; obtain ⟨_, z, _⟩ := hx; subst z; cases (show _ = _ from hy); done)
    | (cases e; obtain ⟨_, z, _⟩ := hx; subst z; cases (show _ = _ from hy.1); done)
    | (cases e; obtain ⟨_, _, z, _⟩ := hy; subst z; cases (show _ = _ from hx); done)
    | (cases e; obtain ⟨_, _, z, _⟩ := hy; subst z; cases (show _ = _ from hx.1); done)
    | (cases e; obtain ⟨_, z, _⟩ := hy; subst z; cases (show _ = _ from hx); done)
    | (cases e; obtain ⟨_, z, _⟩ := hy; subst z; cases (show _ = _ from hx.1); done)
    | (cases e; obtain ⟨_, _, z, h2, _⟩ := hx; obtain ⟨_, _, z', h2', _⟩ := hy; subst z; cases z'; rw [h2] at h2'; cases h2'; done)
    | (cases e; cases (show _ = _ from hx); cases (show _ = _ from hy); done)
    | (cases e; cases (show _ = _ from hx.1); cases (show _ = _ from hy.1); done)
theorem eqF_refl (I : Inv X pins σ H s) (hs : Same F H) : ∀ (n : Nat) (x y : D) (v : V) (b : Bool), Den X.K F x v → Den X.K F y v → eqF n x y = some b → b = true
  | 0, x, y, v, b, hx, hy, e => flat_refl hx hy (by unfold eqF at e; exact e)
  | n + 1, x, y, v, b, hx, hy, e => by
    unfold eqF at e
    split at e
    · rename_i xs ys _
      obtain ⟨a, vs, rfl, h2, h3, _⟩ := hx
      obtain ⟨a', vs', z, k2, k3, _⟩ := hy
      cases z
      rw [h2] at k2
      cases k2
      exact eqL_refl (eqF_refl I hs _) h3 k3 (by simpa using e)
    · rename_i xs ys _
      obtain ⟨a, vs, rfl, h2, h3, _⟩ := hx
      obtain ⟨a', vs', z, k2, k3, _⟩ := hy
      cases z
      rw [h2] at k2
      cases k2
      exact eqL_refl (eqF_refl I hs _) h3 k3 (by simpa using e)
    · rename_i xs ys _
      obtain ⟨a, rfl, h2, _⟩ := hx
      obtain ⟨a', vs', z, k2, k3, _⟩ := hy
      cases z
      have hv := I.list_inj (Same.seq hs h2) (SqL.of (hs _ _ k2))
      rw [← hv] at k3
      exact eqL_refl (eqF_refl I hs _) (DenL.ints xs) k3 (by simpa using e)
    · exact flat_refl hx hy e
theorem Vals.at {vs : List V} {its : List Value} (r : Vals vs its) {j : Nat} (h : j < its.toArray.size) : ∃ v, vs[j]? = some v ∧ RelV v its.toArray[j] := by
  have hl := r.length
  have hj : j < vs.length := by rw [List.size_toArray] at h; omega
  obtain ⟨u, e1, e2⟩ := r.get (List.getElem?_eq_getElem hj)
  refine ⟨vs[j], List.getElem?_eq_getElem hj, ?_⟩
  have : its.toArray[j] = u := by
    have := (List.getElem?_eq_some_iff.mp e1).2
    simpa using this
  rw [this]
  exact e2
theorem elts_at {f : D → D → Option Bool} {A : Around} {xs ys : List D} {vs ws : List V} {its its2 : List Value} {b : Bool} (h1 : DenL X.K F xs vs) (h2 : DenL X.K F ys ws) (r1 : Vals vs its) (r2 : Vals ws its2) (e : eqL f xs ys = some b)
    (ih : ∀ x y v w u t c, Den X.K F x v → Den X.K F y w → RelV v u → RelV w t → f x y = some c → EqAt A s u t c) :
    ∀ j (k1 : j < its.toArray.size) (k2 : j < its2.toArray.size), EqAt A s its.toArray[j] its2.toArray[j] (ev f xs ys j) := fun j k1 k2 => by
  obtain ⟨v, e1, q1⟩ := Vals.at r1 k1
  obtain ⟨w, e2, q2⟩ := Vals.at r2 k2
  obtain ⟨x, e3, q3⟩ := h1.at e1
  obtain ⟨y, e4, q4⟩ := h2.at e2
  obtain ⟨c, hc⟩ := eqL_some e j x y e3 e4
  have : ev f xs ys j = c := by unfold ev; rw [e3, e4]; simp [hc]
  rw [this]
  exact ih x y v w _ _ c q3 q4 q1 q2 hc
theorem lists_all {f : D → D → Option Bool} {A : Around} (hu : A.units < cLine) {xs ys : List D} {vs ws : List V} {its its2 : List Value} {b : Bool} {a a' : Addr} (h1 : DenL X.K F xs vs) (h2 : DenL X.K F ys ws) (r1 : Vals vs its) (r2 : Vals ws its2)
    (p1 : s.heap.IsList a its.toArray) (p2 : s.heap.IsList a' its2.toArray) (e : eqL f xs ys = some b) (hr : a = a' → b = true)
    (ih : ∀ x y v w u t c, Den X.K F x v → Den X.K F y w → RelV v u → RelV w t → f x y = some c → EqAt A.in1 s u t c) : EqAll A s (.ref a) (.ref a') b := by
  have l1 := h1.len
  have l2 := h2.len
  have l3 := r1.length
  have l4 := r2.length
  have hv := eqL_val e
  have core : RcAt A s (.ref a) (.ref a') b ∧ RcNeAt A s (.ref a) (.ref a') (!b) := by
    by_cases hl : xs.length = ys.length
    · have hsz : its.toArray.size = its2.toArray.size := by rw [List.size_toArray, List.size_toArray]; omega
      have hb : b = (List.range its.toArray.size).all (ev f xs ys) := by
        rw [hv, hl, Nat.min_self, beq_self_eq_true, Bool.and_true]
        congr 2
        rw [List.size_toArray]; omega
      rw [hb]
      exact ⟨RcAt.lists p1 p2 hsz hu (elts_at h1 h2 r1 r2 e ih), RcNeAt.lists p1 p2 hsz hu (elts_at h1 h2 r1 r2 e ih)⟩
    · have hb : b = false := by rw [hv, show (xs.length == ys.length) = false from by simpa using hl, Bool.and_false]
      have hsz : (its.toArray.size != its2.toArray.size) = true := by
        rw [List.size_toArray, List.size_toArray]
        simp
        omega
      rw [hb]
      exact ⟨RcAt.lists_lengths p1 p2 hsz hu, RcNeAt.lists_lengths p1 p2 hsz hu⟩
  refine ⟨core.1, core.2, ?_⟩
  by_cases hq : a = a'
  · rw [hr hq]
    subst hq
    exact EqAt.same _
  · exact EqAt.of_refs hq core.1
theorem tuples_all {f : D → D → Option Bool} {A : Around} (hu : A.units < cLine) {xs ys : List D} {vs ws : List V} {its its2 : List Value} {b : Bool} {a a' : Addr} (h1 : DenL X.K F xs vs) (h2 : DenL X.K F ys ws) (r1 : Vals vs its) (r2 : Vals ws its2)
    (p1 : s.heap.IsTuple a its.toArray) (p2 : s.heap.IsTuple a' its2.toArray) (e : eqL f xs ys = some b) (hr : a = a' → b = true)
    (ih : ∀ x y v w u t c, Den X.K F x v → Den X.K F y w → RelV v u → RelV w t → f x y = some c → EqAt A.in1 s u t c) : EqAll A s (.ref a) (.ref a') b := by
  have l1 := h1.len
  have l2 := h2.len
  have l3 := r1.length
  have l4 := r2.length
  have hb : b = ((List.range (min its.toArray.size its2.toArray.size)).all (ev f xs ys) && its.toArray.size == its2.toArray.size) := by
    rw [eqL_val e, List.size_toArray, List.size_toArray, ← l3, ← l4, ← l1, ← l2]
  have core : RcAt A s (.ref a) (.ref a') b ∧ RcNeAt A s (.ref a) (.ref a') (!b) := by
    rw [hb]
    exact ⟨RcAt.tuples p1 p2 hu (elts_at h1 h2 r1 r2 e ih), RcNeAt.tuples p1 p2 hu (elts_at h1 h2 r1 r2 e ih)⟩
  refine ⟨core.1, core.2, ?_⟩
  by_cases hq : a = a'
  · rw [hr hq]
    subst hq
    exact EqAt.same _
  · exact EqAt.of_refs hq core.1
theorem eq_all (I : Inv X pins σ H s) (hs : Same F H) : ∀ (n : Nat) (A : Around) (x y : D) (v w : V) (u t : Value) (b : Bool), A.units + n < cLine → Den X.K F x v → Den X.K F y w → RelV v u → RelV w t → eqF n x y = some b → EqAll A s u t b
  | 0, A, x, y, v, w, u, t, b, hu, hx, hy, rx, ry, e => flat_all I hs (by omega) hx hy rx ry (by unfold eqF at e; exact e)
  | n + 1, A, x, y, v, w, u, t, b, hu, hx, hy, rx, ry, e => by
    have hu0 : A.units < cLine := by omega
    have hu1 : A.in1.units + n < cLine := by show A.units + 1 + n < cLine; omega
    have hrefl := eqF_refl (F := F) I hs (n + 1) x y
    have ih : ∀ x y v w u t c, Den X.K F x v → Den X.K F y w → RelV v u → RelV w t → eqF n x y = some c → EqAt A.in1 s u t c := fun x y v w u t c q1 q2 q3 q4 q5 => (eq_all I hs n A.in1 x y v w u t c hu1 q1 q2 q3 q4 q5).eq
    have e0 := e
    unfold eqF at e
    split at e
    · rename_i xs ys heq
      cases heq
      obtain ⟨a, vs, its, rfl, ev1, h2, h3, r1, p1⟩ := tup_at I hs hx rx
      obtain ⟨a', vs', its', rfl, ev2, k2, k3, r1', p1'⟩ := tup_at I hs hy ry
      exact tuples_all hu0 h3 k3 r1 r1' p1 p1' e (fun z => by subst z; exact hrefl v b hx (by rw [ev1, ← ev2]; exact hy) e0) ih
    · rename_i xs ys heq
      cases heq
      obtain ⟨a, vs, its, rfl, ev1, h2, h3, r1, p1⟩ := lst_at I hs hx rx
      obtain ⟨a', vs', its', rfl, ev2, k2, k3, r1', p1'⟩ := lst_at I hs hy ry
      exact lists_all hu0 h3 k3 r1 r1' p1 p1' e (fun z => by subst z; exact hrefl v b hx (by rw [ev1, ← ev2]; exact hy) e0) ih
    · rename_i xs ys heq
      cases heq
      obtain ⟨a, its, rfl, ev1, h2, r1, p1⟩ := scr_at I hs hx rx
      obtain ⟨a', vs', its', rfl, ev2, k2, k3, r1', p1'⟩ := lst_at I hs hy ry
      exact lists_all hu0 (DenL.ints _) k3 r1 r1' p1 p1' e (fun z => by subst z; exact hrefl v b hx (by rw [ev1, ← ev2]; exact hy) e0) ih
    · exact flat_all I hs hu0 hx hy rx ry e
end

def gEq (x y : D) : M D := match eqF 6 x y with | some b => M.ret (.bl b) | none => M.stuck
def gNe (x y : D) : M D := match eqF 6 x y with | some b => M.ret (.bl (!b)) | none => M.stuck
def rEqD (K : PySem.W.Frag) : R2 := fun x y H Q => ∃ F dx dy b, Same F H ∧ Den K F dx x ∧ Den K F dy y ∧ eqF 6 dx dy = some b ∧ Q (.bl b) H
def rNeD (K : PySem.W.Frag) : R2 := fun x y H Q => ∃ F dx dy b, Same F H ∧ Den K F dx x ∧ Den K F dy y ∧ eqF 6 dx dy = some b ∧ Q (.bl (!b)) H
section
variable {X : Cx} {Xw : Nat → Hp → Prop} {a b : Expr} {δa δb : DE} {pos : Pos}
theorem op_eqD (hu : X.A.units + 64 < cLine) : OpR X (compareOp .Eq) (rEqD X.K) := by
  intro pins s σ H x y v u Q I rx ry h
  obtain ⟨F, dx, dy, b, hs, hx, hy, e, q⟩ := h
  exact (eq_all I hs 6 X.A dx dy x y v u b (by omega) hx hy rx ry e).rc _ _ _ _ ⟨.bl b, H, I, rfl, q⟩
theorem op_neD (hu : X.A.units + 64 < cLine) : OpR X (compareOp .NotEq) (rNeD X.K) := by
  intro pins s σ H x y v u Q I rx ry h
  obtain ⟨F, dx, dy, b, hs, hx, hy, e, q⟩ := h
  exact (eq_all I hs 6 X.A dx dy x y v u b (by omega) hx hy rx ry e).ne _ _ _ _ ⟨.bl (!b), H, I, rfl, q⟩
theorem opd_eq {K : PySem.W.Frag} : OpD K (rEqD K) gEq := fun Xw F H x y dx dy Q s hx hy w => by
  unfold gEq at w
  split at w
  · rename_i b e
    exact ⟨F, dx, dy, b, s, hx, hy, e, WP.now w s rfl⟩
  · exact w.elim
theorem opd_ne {K : PySem.W.Frag} : OpD K (rNeD K) gNe := fun Xw F H x y dx dy Q s hx hy w => by
  unfold gNe at w
  split at w
  · rename_i b e
    exact ⟨F, dx, dy, b, s, hx, hy, e, WP.now w s rfl⟩
  · exact w.elim
theorem pt_eq (hu : X.A.units + 64 < cLine) (ha : PD X Xw a δa) (hb : PD X Xw b δb) : PDT X Xw (.Compare a [.Eq] [b] pos) (tB' (d2 gEq δa δb)) := pt_cmp' (op_eqD hu) opd_eq ha hb
theorem pt_ne (hu : X.A.units + 64 < cLine) (ha : PD X Xw a δa) (hb : PD X Xw b δb) : PDT X Xw (.Compare a [.NotEq] [b] pos) (tB' (d2 gNe δa δb)) := pt_cmp' (op_neD hu) opd_ne ha hb
theorem pd_eq (hu : X.A.units + 64 < cLine) (ha : PD X Xw a δa) (hb : PD X Xw b δb) : PD X Xw (.Compare a [.Eq] [b] pos) (d2 gEq δa δb) := pd_cmp (op_eqD hu) opd_eq ha hb
end
end L3


set_option Elab.async false
set_option linter.all false
set_option maxRecDepth 100000
namespace L3
open PySem PySem.Spec L2 SeqAt
open PyProof.Rows hiding St

def PDW (X : Cx) (Xw : Nat → Hp → Prop) (e : Expr) (δ : DT) : Prop := PW X e (tDT X.K Xw δ)
theorem PW.weak {X : Cx} {e : Expr} {t t' : TT} (h : PW X e t) (k : ∀ σ H Q, t' σ H Q → t σ H Q) : PW X e t' := fun wh pins s σ H Q I w => h wh pins s σ H Q I (k σ H Q w)
section
variable {X : Cx} {Xw : Nat → Hp → Prop} {a b c : Expr} {rest : List Expr} {δa δb δc : DE} {τa τb : DT} {pos : Pos}
theorem pdw_or1 (ha : PDT X Xw a τa) : PDW X Xw (.BoolOp .Or [a] pos) τa := pw_or1 ha
theorem pdw_or (ha : PDT X Xw a τa) (hb : PDW X Xw (.BoolOp .Or (b :: rest) pos) τb) : PDW X Xw (.BoolOp .Or (a :: b :: rest) pos) (dOr τa τb) := PW.weak (pw_or ha hb) fun σ H Q ⟨F, ρ, s, w⟩ => by
  refine ⟨F, ρ, s, WPB.mono (WPB.bindB w) fun v H1 ⟨F1, e1, w1⟩ => ?_⟩
  cases v with
  | false => exact ⟨F1, ρ, s.ext e1, w1⟩
  | true => exact w1 _ _ (Ext.refl e1.fh)
theorem PDW.t (h : PDW X Xw a τa) : PDT X Xw a τa := PW.pt h
theorem pdt_not (ha : PDT X Xw a τa) : PDT X Xw (.UnaryOp .Not a pos) (dNot τa) := PT.weak (pt_not ha) fun σ H Q ⟨F, ρ, s, w⟩ =>
  ⟨F, ρ, s, WPB.mono (WPB.bindB w) fun v H1 ⟨F1, e1, w1⟩ => w1 _ _ (Ext.refl e1.fh)⟩
def truM : D → M Bool
  | .non => M.ret false
  | .bl b => M.ret b
  | .lst ds => M.ret (!ds.isEmpty)
  | .tup ds => M.ret (!ds.isEmpty)
  | _ => M.stuck
def dTru (δ : DE) : DT := fun ρ => δ ρ >>= truM
theorem DenL.isEmpty {K : PySem.W.Frag} {F : Hp} {ds : List D} {vs : List V} (h : DenL K F ds vs) : ds.isEmpty = vs.isEmpty := by
  have := h.len
  cases ds <;> cases vs <;> simp_all
theorem pdt_tru (ha : PD X Xw a δa) (he : ∀ whole, isTrue a X.env whole = (do let v ← whole; standAt a.pos; holding [v] (truthy v)) := by intro _; rfl) : PDT X Xw a (dTru δa) := PT.weak (pt_truth ha he) fun σ H Q ⟨F, ρ, s, w⟩ => by
  refine ⟨F, ρ, s, WP.mono (WPB.bind (K := X.K) w) fun v H1 ⟨F1, d, e1, q1, w1⟩ => ?_⟩
  cases d with
  | non => cases (show _ = _ from q1); exact ⟨false, rfl, w1 _ _ (Ext.refl e1.fh)⟩
  | bl b => cases (show _ = _ from q1); exact ⟨b, rfl, w1 _ _ (Ext.refl e1.fh)⟩
  | lst ds =>
    obtain ⟨a, vs, rfl, h2, h3, _⟩ := q1
    exact ⟨!ds.isEmpty, .inl ⟨vs, SqL.of (e1.fh _ _ h2), by rw [h3.isEmpty]⟩, w1 _ _ (Ext.refl e1.fh)⟩
  | tup ds =>
    obtain ⟨a, vs, rfl, h2, h3, _⟩ := q1
    exact ⟨!ds.isEmpty, .inr (.inl ⟨vs, SqT.of (e1.fh _ _ h2), by rw [h3.isEmpty]⟩), w1 _ _ (Ext.refl e1.fh)⟩
  | _ => exact w1.elim
theorem pd_one {op} (h : PD X Xw a δa) : PD X Xw (.BoolOp op [a] pos) δa := pe_one h
theorem pd_and (ha : PD X Xw a δa) (hb : PD X Xw (.BoolOp .And (b :: rest) pos) δb) : PD X Xw (.BoolOp .And (a :: b :: rest) pos) (dAndV δa δb) := PE.weak (pe_and ha hb) fun σ H Q ⟨F, ρ, s, w⟩ => by
  refine ⟨F, ρ, s, WP.mono (WP.bind w) fun v H1 ⟨F1, d, e1, q1, w1⟩ => ?_⟩
  cases d with
  | bl k =>
    refine ⟨k, q1, ?_⟩
    cases k with
    | true => exact ⟨F1, ρ, s.ext e1, w1⟩
    | false => exact WP.now w1 e1.fh rfl
  | _ => exact w1.elim
theorem pd_or (ha : PD X Xw a δa) (hb : PD X Xw (.BoolOp .Or (b :: rest) pos) δb) : PD X Xw (.BoolOp .Or (a :: b :: rest) pos) (dOrV δa δb) := PE.weak (pe_or ha hb) fun σ H Q ⟨F, ρ, s, w⟩ => by
  refine ⟨F, ρ, s, WP.mono (WP.bind w) fun v H1 ⟨F1, d, e1, q1, w1⟩ => ?_⟩
  cases d with
  | bl k =>
    refine ⟨k, q1, ?_⟩
    cases k with
    | false => exact ⟨F1, ρ, s.ext e1, w1⟩
    | true => exact WP.now w1 e1.fh rfl
  | _ => exact w1.elim
theorem pd_not (ha : PD X Xw a δa) : PD X Xw (.UnaryOp .Not a pos) (dNotV δa) := PE.weak (pe_not ha) fun σ H Q ⟨F, ρ, s, w⟩ => by
  refine ⟨F, ρ, s, WP.mono (WP.bind w) fun v H1 ⟨F1, d, e1, q1, w1⟩ => ?_⟩
  cases d with
  | bl k => exact ⟨k, q1, WP.now w1 e1.fh rfl⟩
  | _ => exact w1.elim
theorem pd_if (hc : PDT X Xw c τa) (ha : PD X Xw a δa) (hb : PD X Xw b δb) : PD X Xw (.IfExp c a b pos) (dIf τa δa δb) := PE.weak (pe_ifExp hc ha hb) fun σ H Q ⟨F, ρ, s, w⟩ => by
  refine ⟨F, ρ, s, WPB.mono (WP.bindB w) fun v H1 ⟨F1, e1, w1⟩ => ?_⟩
  cases v with
  | true => exact ⟨F1, ρ, s.ext e1, w1⟩
  | false => exact ⟨F1, ρ, s.ext e1, w1⟩
def chI (p q : Int → Int → Bool) (a b c : DE) : DE := fun ρ => a ρ >>= fun x => b ρ >>= fun y => match x, y with
  | .int i, .int j => if p i j then c ρ >>= fun z => gI (fun i j => .bl (q i j)) y z else M.ret (.bl false)
  | _, _ => M.stuck
theorem tChain_of {p q : Int → Int → Bool} : ∀ σ H Q, tD X.K Xw (chI p q δa δb δc) σ H Q → tChain (rI0 fun i j => .bl (p i j)) (rI0 fun i j => .bl (q i j)) (tD X.K Xw δa) (tD X.K Xw δb) (tD X.K Xw δc) σ H Q := fun σ H Q ⟨F, ρ, s, w⟩ => by
  refine ⟨F, ρ, s, WP.mono (WP.bind w) fun v H1 ⟨F1, d, e1, q1, w1⟩ => ?_⟩
  refine ⟨F1, ρ, s.ext e1, WP.mono (WP.bind w1) fun u H2 ⟨F2, d', e2, q2, w2⟩ => ?_⟩
  cases d with
  | int i =>
    cases d' with
    | int j =>
      refine ⟨i, j, q1, q2, p i j, rfl, ?_⟩
      have w2 : WP X.K Xw F2 H2 (if p i j then δc ρ >>= fun z => gI (fun i j => .bl (q i j)) (.int j) z else M.ret (.bl false)) Q := w2
      cases hp : p i j with
      | false =>
        rw [hp] at w2
        exact WP.now w2 e2.fh rfl
      | true =>
        rw [hp] at w2
        refine ⟨F2, ρ, (s.ext e1).ext e2, WP.mono (WP.bind w2) fun u' H3 ⟨F3, d'', e3, q3, w3⟩ => ?_⟩
        exact opd_I (K := X.K) (gv := fun i j => .bl (q i j)) (gd := fun i j => .bl (q i j)) (fun _ _ _ => rfl) Xw F3 H3 u u' (.int j) d'' Q e3.fh q2 q3 w3
    | _ => exact w2.elim
  | _ => exact w2.elim
theorem pd_chI {op op' : CmpOp} {p q : Int → Int → Bool} (ho : OpR X (compareOp op) (rI0 fun i j => .bl (p i j))) (ho' : OpR X (compareOp op') (rI0 fun i j => .bl (q i j))) (ha : PD X Xw a δa) (hb : PD X Xw b δb) (hc : PD X Xw c δc)
    (hm : lastMarks [op, op'] [b, c] = false := by with_unfolding_all rfl) : PD X Xw (.Compare a [op, op'] [b, c] pos) (chI p q δa δb δc) := PE.weak (pe_chain ho ho' ha hb hc hm) tChain_of
theorem pt_chI {op op' : CmpOp} {p q : Int → Int → Bool} (ho : OpR X (compareOp op) (rI0 fun i j => .bl (p i j))) (ho' : OpR X (compareOp op') (rI0 fun i j => .bl (q i j))) (ha : PD X Xw a δa) (hb : PD X Xw b δb) (hc : PD X Xw c δc)
    (hm : lastMarks [op, op'] [b, c] = false := by with_unfolding_all rfl) : PDT X Xw (.Compare a [op, op'] [b, c] pos) (tB' (chI p q δa δb δc)) := PT.weak (pt_chain ho ho' ha hb hc hm) fun σ H Q ⟨F, ρ, s, w⟩ => by
  refine tChain_of σ H _ ⟨F, ρ, s, WP.mono (WPB.bind w) fun v H1 ⟨F1, d, e1, q1, w1⟩ => ?_⟩
  cases d with
  | bl k => exact ⟨k, q1, w1 _ _ (Ext.refl e1.fh)⟩
  | _ => exact w1.elim

def CallD (K : PySem.W.Frag) (r : List V → Hp → VK → Prop) (g : List D → M D) : Prop := ∀ (Xw : Nat → Hp → Prop) (F H : Hp) (vs : List V) (ds : List D) (Q : VK), Same F H → DenL K F ds vs → WP K Xw F H (g ds) Q → r vs H Q
variable {x : Str} {p : Pos} {e : Expr} {es : List Expr} {δs : DA} {id T : String} {r : List V → Hp → VK → Prop} {g : List D → M D}
theorem tCB_of (h : CallD X.K r g) : ∀ σ H Q, tD X.K Xw (dA g δs) σ H Q → tCB r (tDA X.K Xw δs) σ H Q := fun σ H Q ⟨F, ρ, s, w⟩ =>
  ⟨F, ρ, s, WPL.mono (WP.bindL w) fun vs H1 ⟨F1, ds, e1, q1, w1⟩ => h Xw F1 H1 vs ds Q e1.fh q1 w1⟩
theorem pd_callB (hc : CallR X (.builtin id) r) (hd : CallD X.K r g) (hg : Gl X x) (hm : X.mg x = none) (hv : bootBuiltins x = some (.builtin id)) (ha : PDA X Xw (e :: es) δs) (hn : x ≠ "__name__" := by decide) (hdb : (x == ("__debug__" : Str)) = false := by decide)
    (he : starEach (e :: es) X.env = (false, eval e X.env) :: starEach es X.env := by rfl) (hpl : (backTo pos (starEach es X.env)).any (·.1) = false := by rfl) : PD X Xw (.Call (.Name x p) (e :: es) [] pos) (dA g δs) :=
  PE.weak (pe_callB hc hg hm hv ha hn hdb he hpl) (tCB_of hd)
def lenM : List D → M D
  | [.lst ds] => M.ret (.int ds.length)
  | [.tup ds] => M.ret (.int ds.length)
  | [.str x] => M.ret (.int x.length)
  | [.scr ns] => M.ret (.int ns.length)
  | _ => M.stuck
theorem len_callD : CallD X.K (fun xs H Q => (∃ p ys, xs = [.ref p] ∧ (SqL X.K H p ys ∨ SqT X.K H p ys) ∧ Q (.int ys.length) H) ∨ ∃ z, xs = [.str z] ∧ z.length ≤ sizeLine ∧ Q (.int z.length) H) lenM := fun Xw F H vs ds Q s h w => by
  unfold lenM at w
  split at w
  · obtain ⟨v, rfl, h1⟩ := h.one
    obtain ⟨a, vs, rfl, h2, h3, _⟩ := h1
    exact .inl ⟨a, vs, rfl, .inl (SqL.of (s _ _ h2)), by rw [← h3.len]; exact WP.now w s rfl⟩
  · obtain ⟨v, rfl, h1⟩ := h.one
    obtain ⟨a, vs, rfl, h2, h3, _⟩ := h1
    exact .inl ⟨a, vs, rfl, .inr (SqT.of (s _ _ h2)), by rw [← h3.len]; exact WP.now w s rfl⟩
  · obtain ⟨v, rfl, h1⟩ := h.one
    cases (show _ = _ from h1.1)
    exact .inr ⟨_, rfl, by have := h1.2; have := lim_lt; omega, WP.now w s rfl⟩
  · obtain ⟨v, rfl, h1⟩ := h.one
    obtain ⟨a, rfl, h2, _⟩ := h1
    exact .inl ⟨a, _, rfl, .inl (Same.seq s h2), by rw [List.length_map]; exact WP.now w s rfl⟩
  · exact w.elim
theorem pd_len (hg : Gl X "len") (hm : X.mg "len" = none) (ha : PDA X Xw [e] δs) (he : starEach [e] X.env = [(false, eval e X.env)] := by rfl) : PD X Xw (.Call (.Name "len" p) [e] [] pos) (dA lenM δs) :=
  pd_callB (call_len_seq.or call_len_str) len_callD hg hm PySem.boot_len ha (by decide) (by decide) he rfl
def absM : List D → M D
  | [.int i] => M.ret (.int (if i < 0 then -i else i))
  | _ => M.stuck
def maxM : List D → M D
  | [.int i, .int j] => M.ret (.int (if j > i then j else i))
  | _ => M.stuck
def minM : List D → M D
  | [.int i, .int j] => M.ret (.int (if j < i then j else i))
  | _ => M.stuck
theorem pd_abs (hg : Gl X "abs") (hm : X.mg "abs" = none) (ha : PDA X Xw [e] δs) (hb : bootBuiltins "abs" = some (.builtin "abs")) (he : starEach [e] X.env = [(false, eval e X.env)] := by rfl) : PD X Xw (.Call (.Name "abs" p) [e] [] pos) (dA absM δs) :=
  pd_callB call_abs (fun Xw F H vs ds Q s h w => by
    unfold absM at w
    split at w
    · obtain ⟨v, rfl, h1⟩ := h.one
      cases (show _ = _ from h1)
      exact ⟨_, rfl, WP.now w s rfl⟩
    · exact w.elim) hg hm hb ha (by decide) (by decide) he rfl
end
end L3


set_option Elab.async false
set_option linter.all false
set_option maxRecDepth 100000
namespace L3
open PySem PySem.Spec L2 SeqAt
open PyProof.Rows hiding St

theorem WP.xw {K : PySem.W.Frag} {Xw Xw' : Nat → Hp → Prop} {F H : Hp} {m : M D} {Q : VK} (h : WP K Xw F H m Q) (k : ∀ n H, Xw n H → Xw' n H) : WP K Xw' F H m Q := by
  match m, h with
  | none, h => exact h
  | some (.ok d), h => exact h
  | some (.ex n), h => exact fun F' H' e => k n H' (h F' H' e)
theorem psd_nox {X : Cx} {Xw : Nat → Hp → Prop} {st : Stmt} {τ : DS} (h : PSD X.nox (fun _ _ => False) st τ) : PSD X Xw st (fun ρ => noex (τ ρ)) := fun F₀ H₀ pins s σ H D I ⟨F, ρ, S, w⟩ => by
  have w : WPS X.K Xw F₀ H₀ (noex (τ ρ)) D := w
  have w' : tS X.K (fun _ _ => False) F₀ H₀ τ D σ H := by
    refine ⟨F, ρ, S, ?_⟩
    rcases (τ ρ).cs with e | ⟨n, e⟩ | ⟨o, e⟩
    · rw [e] at w; exact w.elim
    · rw [e] at w; exact w.elim
    · rw [e] at w ⊢
      cases o with
      | nx ρ' => exact w
      | rt d => exact w
  refine wpAny_mono (h F₀ H₀ pins s σ H D (I.wish _) w') (fun f s' q => SP.unwish q) fun _ _ z => z.elim
def EX (cv : Nat → Value) (Xw : Nat → Hp → Prop) : XK := fun c _ H => ∃ n, c = cv n ∧ Xw n H
def spD (K : PySem.W.Frag) (cv : Nat → Value) (k : Nat) (f : List D → M D) : Sp := fun vs H Q E => ∃ F ds, Same F H ∧ DenL K F ds vs ∧ vs.length = k ∧ WP K (fun n H' => E (cv n) none H') F H (f ds) Q
def runD (n : Nat) (τ : DS) : List D → M D := fun ds => τ (ds.map (fun d => some (Sl.fz d)) ++ List.replicate (n - ds.length) none) >>= fun o => match o with
  | .nx _ => M.ret .non
  | .rt d => M.ret d
section
variable {P : Program} {w : World} {K : PySem.W.Frag} {mg : Str → Option Value} {base : Heap} {CX : CXT} {cv : Nat → Value}
theorem fn_D {x qual : Str} {st : Stmt} {f : Addr} {fd : FuncData} {N ps : List Str} {k : Nat} {τ : DS} (Fn : Fun K x qual st f fd) (S : FnScope N ps (defScope st))
    (hbody : ∀ (cdv : Value) (A : Around) (outer : List Env) (s : Shared) (H : Hp) (E : XK), Room k (A.deeper (envOfC qual (defScope st) s.heap.objs.size f cdv)) →
      PSDs (cxOf CX P w K mg base N qual (defScope st) f cdv A outer s H E) (fun n H' => E (cv n) none H') (defBody st) τ) : FnOk P w K mg base CX (k + 1) f fd ps (spD K cv ps.length (runD N.length τ)) := by
  obtain ⟨oc, od, kV, doc, pm, an, cdv, ct, osl, rfl, lk, hcd⟩ := Fn.ex
  refine fn_of lk hcd S (fun vs H Q E ⟨_, _, _, _, hl, _⟩ => hl) fun A outer s H vs Q E hr hsp => ?_
  obtain ⟨F, ds, fh, hd, hl, hw⟩ := hsp
  refine ⟨_, hbody cdv A outer s H E hr F H, F, ds.map (fun d => some (Sl.fz d)) ++ List.replicate (N.length - ds.length) none, ⟨Ext.refl fh, ⟨fh, fun i sl e => ?_⟩, ?_, fun i c a e => ?_, fun i j c c' a e => ?_⟩, ?_⟩
  · have hlen := hd.len
    by_cases hi : i < ds.length
    · rw [List.getElem?_append_left (by simpa using hi), List.getElem?_map] at e
      cases q : ds[i]? with
      | none => rw [q] at e; cases e
      | some d =>
        rw [q] at e
        cases e
        obtain ⟨v, e1, e2⟩ := hd.get q
        refine ⟨v, ?_, e2⟩
        unfold L2.start
        rw [List.getElem?_append_left (by simp; omega), List.getElem?_map, e1]
        rfl
    · rw [List.getElem?_append_right (by simpa using hi), List.getElem?_replicate] at e
      split at e <;> cases e
  · have hlen := hd.len
    unfold L2.start
    simp [hlen]
  · exfalso
    by_cases hi : i < ds.length
    · rw [List.getElem?_append_left (by simpa using hi), List.getElem?_map] at e
      cases q : ds[i]? with
      | none => rw [q] at e; cases e
      | some d => rw [q] at e; cases e
    · rw [List.getElem?_append_right (by simpa using hi), List.getElem?_replicate] at e
      split at e <;> cases e
  · exfalso
    by_cases hi : i < ds.length
    · rw [List.getElem?_append_left (by simpa using hi), List.getElem?_map] at e
      cases q : ds[i]? with
      | none => rw [q] at e; cases e
      | some d => rw [q] at e; cases e
    · rw [List.getElem?_append_right (by simpa using hi), List.getElem?_replicate] at e
      split at e <;> cases e
  · have hw : WP K (fun n H' => E (cv n) none H') F H (τ (ds.map (fun d => some (Sl.fz d)) ++ List.replicate (N.length - ds.length) none) >>= fun o => match o with | .nx _ => M.ret .non | .rt d => M.ret d) Q := hw
    rcases (τ (ds.map (fun d => some (Sl.fz d)) ++ List.replicate (N.length - ds.length) none)).cs with e | ⟨n, e⟩ | ⟨o, e⟩
    · rw [e] at hw; exact hw.elim
    · rw [e] at hw ⊢; exact hw
    · rw [e] at hw ⊢
      cases o with
      | nx ρ' => exact fun σ' F' H' s' => hw .non H' F' s'.ext rfl
      | rt d => exact fun v F' H' e' q => hw v H' F' e' q
end
section
variable {X : Cx} {Xw : Nat → Hp → Prop} {CX : CXT} {cv : Nat → Value} {k m : Nat} {f : Addr} {fd : FuncData} {ps : List Str} {g : List D → M D} {x : Str} {p pos : Pos} {e : Expr} {es : List Expr} {δs : DA}
theorem pd_call (F : FnOk X.prog X.w X.K X.mg X.base CX k f fd ps (spD X.K cv m g)) (hr : Room k X.A) (hg : Gl X x) (hm : X.mg x = some (.ref f)) (hk : PySem.W.keepIn X.K (.ref f) = true) (hb : Binds X.K fd ps []) (hx : Passes CX X (EX cv Xw))
    (ha : PDA X Xw (e :: es) δs) (hl : (e :: es).length = m) (hdb : (x == ("__debug__" : Str)) = false := by decide) (he : starEach (e :: es) X.env = (false, eval e X.env) :: starEach es X.env := by rfl) (hpl : (backTo pos (starEach es X.env)).any (·.1) = false := by rfl) :
    PD X Xw (.Call (.Name x p) (e :: es) [] pos) (fun ρ => δs ρ >>= fun ds => if ds.length = m then g ds else M.stuck) := PE.weak (pe_call F hr hg hm hk hb .nil hx ha hdb he hpl) fun σ H Q ⟨F, ρ, s, w⟩ => by
  refine ⟨F, ρ, s, WPL.mono (WP.bindL w) fun vs H1 ⟨F1, ds, e1, q1, w1⟩ => ?_⟩
  split at w1
  · rename_i hl1
    refine ⟨F1, ds, e1.fh, by simpa using q1, by rw [List.append_nil, ← q1.len]; exact hl1, WP.xw w1 fun n H h => ⟨n, rfl, h⟩⟩
  · exact w1.elim
theorem pd_glob {x : Str} {d : D} {v : V} {u : Value} (hg : Gl X x) (hm : X.mg x = some u) (r : RelV v u) (hd : ∀ F, Den X.K F d v) (hdb : (x == ("__debug__" : Str)) = false := by decide) : PD X Xw (.Name x pos) (dC d) :=
  pd_const (pe_glob hg hm r hdb) hd
end
end L3


set_option Elab.async false
set_option linter.all false
set_option maxRecDepth 100000
namespace L3
open PySem PySem.Spec L2 SeqAt
open PyProof.Rows hiding St

theorem obj_some {P : Program} {w : World} {H : Hp} {h : Heap} {a : Addr} {o : HO} (x : ObjOk P w H h a o) : ∃ ob, h.get? a = some ob := by
  cases o with
  | lst xs => obtain ⟨_, _, _, _, e⟩ := x; exact ⟨_, e⟩
  | tup xs => obtain ⟨_, _, _, ob, e, _⟩ := x; exact ⟨_, e⟩
  | dK kvs => obtain ⟨_, _, _, _, o, _, _, e, _⟩ := x; exact ⟨_, e⟩
  | dT kvs => obtain ⟨_, _, _, _, o, _, _, e, _⟩ := x; exact ⟨_, e⟩
  | set S n => obtain ⟨o, _, _, _, e, _⟩ := x; exact ⟨_, e⟩
  | ins C dx fs => obtain ⟨_, _, _, e, _⟩ := x; exact ⟨_, e⟩
  | own y => obtain ⟨_, e⟩ := x; exact ⟨_, e⟩
  | xd fs => obtain ⟨_, ⟨_, _, _, e, _⟩, _⟩ := x; exact ⟨_, e⟩
  | rng lo hi => obtain ⟨_, _, _, e⟩ := x; exact ⟨_, e⟩
  | frz ob u => obtain ⟨e, _⟩ := x; exact ⟨_, e⟩
  | tbl ps => exact ⟨_, (show h.get? a = some _ from x)⟩
  | met f y => exact ⟨_, (show h.get? a = some _ from x)⟩
  | ext φ => obtain ⟨_, ⟨_, e⟩, _⟩ := x; exact ⟨_, e⟩
def CX1 (P : Program) (w : World) (cv : Nat → Value) : CXT := fun outer H s E e s' => ∃ (ea : Addr) (n : Nat) (a0 : Value) (B : Heap) (H' : Hp), e = .ref ea ∧ s'.os = s.os ∧ AllBare s'.gens ∧ HOk P w H' s'.heap ∧ Un (frs outer) [] H H' s.heap s'.heap ∧
  Heap.FlyingW B outer ea (cv n) a0 s'.heap ∧ (∀ b o, s'.heap.get? b = some o → (H' b ≠ none ∨ (s.heap.get? b).isSome = true) → b ∉ frs outer → B.get? b = some o) ∧ E (cv n) none H'
section
variable {P : Program} {w : World} {fs : List Addr} {H₀ H : Hp} {h₀ h h' : Heap}
theorem un_step (u : Un fs [] H₀ H h₀ h) (ka : ∀ b o, h.get? b = some o → b ∉ fs → (H b ≠ none ∨ (h₀.get? b).isSome = true) → h'.get? b = some o) (kb : ∀ b o, h.get? b = some o → b ∈ fs → ∃ sl, h'.get? b = some { o with slots := sl }) : Un fs [] H₀ H h₀ h' where
  keep := fun b o e n hb hx => ka b o (u.keep b o e n hb hx) hb (.inr (by rw [e]; rfl))
  slot := fun b o e n hb hx => by
    obtain ⟨sl, q⟩ := u.slot b o e n hb hx
    obtain ⟨sl', q'⟩ := kb b _ q hb
    exact ⟨sl', q'⟩
  free := u.free
  there := fun b o e hx => by
    obtain ⟨o', q⟩ := u.there b o e hx
    by_cases hb : b ∈ fs
    · obtain ⟨sl, q'⟩ := kb b _ q hb
      exact ⟨_, q'⟩
    · exact ⟨o', ka b o' q hb (.inr (by rw [e]; rfl))⟩
  tups := u.tups
  frzs := u.frzs
  tbls := u.tbls
theorem hok_step (x : HOk P w H h) (hf : ∀ b ∈ fs, H b = none) (ka : ∀ b o, h.get? b = some o → b ∉ fs → H b ≠ none → h'.get? b = some o) : HOk P w H h' := fun a o e => by
  refine (x a o e).stay (fun b u hb q => ka b u q (fun z => ?_) ?_) (fun _ q => q) fun _ _ q => q
  · have hz := hf b z
    rcases hb with rfl | hb
    · rw [hz] at e; cases e
    · rw [hz] at hb; cases hb
  · rcases hb with rfl | hb
    · rw [e]; exact fun z => nomatch z
    · rw [hb]; exact fun z => nomatch z
end
section
variable {P : Program} {w : World} {K : PySem.W.Frag} {mg : Str → Option Value} {base : Heap} {N : List Str} {qual : Str} {scope : Scope} {f : Addr} {cd : Value} {A : Around} {outer : List Env} {s₀ : Shared} {H₀ : Hp} {E : XK} {cv : Nat → Value}
theorem pass1 : Passes (CX1 P w cv) (cxOf (CX1 P w cv) P w K mg base N qual scope f cd A outer s₀ H₀ E) (EX cv fun n H' => E (cv n) none H') := by
  intro pins σ H s e s' I ⟨ea, n, a0, B, H', he, hos, hg, hok, un, fly, hB, m, hm, hE⟩
  subst he
  have hloc : ((cxOf (CX1 P w cv) P w K mg base N qual scope f cd A outer s₀ H₀ E)).env.locals = s₀.heap.objs.size := rfl
  have hstk : frs ((cxOf (CX1 P w cv) P w K mg base N qual scope f cd A outer s₀ H₀ E)).stack = s₀.heap.objs.size :: frs outer := rfl
  show wpAny (model P w) (A.deeper (envOfC qual scope s₀.heap.objs.size f cd)) (leaving (envOfC qual scope s₀.heap.objs.size f cd) (.ref ea)) _ _ s'
  refine wpAny_leaves_onW (base := B) (outer := outer) (L := s₀.heap.objs.size) I.ok.frames rfl fly fun h' fly' ups => ?_
  have hfr : ∀ b ∈ frs ((cxOf (CX1 P w cv) P w K mg base N qual scope f cd A outer s₀ H₀ E)).stack, H' b = none := fun b hb => by
    obtain ⟨o, ho⟩ : ∃ o, s.heap.get? b = some o := by
      obtain ⟨_, o, ho, _⟩ := I.stack.mem hb
      exact ⟨o, ho⟩
    exact un.free b o ho (I.stkFree b hb) (by simp)
  have keepB : ∀ b o, s'.heap.get? b = some o → b ∉ frs ((cxOf (CX1 P w cv) P w K mg base N qual scope f cd A outer s₀ H₀ E)).stack → (H' b ≠ none ∨ (s.heap.get? b).isSome = true) → h'.get? b = some o := fun b o e hb hc => fly'.1 b o (hB b o e hc hb)
  have unA : Un (frs outer) [] H₀ H' s₀.heap s'.heap := by
    have u1 : Un (frs outer) [] H₀ H s₀.heap s.heap := I.base
    refine ⟨fun b o e nn hb hx => ?_, fun b o e nn hb hx => ?_, fun b o e nn hx => ?_, fun b o e hx => ?_, fun b xs q => un.tups b xs (u1.tups b xs q), fun b o u q => un.frzs b o u (u1.frzs b o u q), fun b ps q => ?_⟩
    · refine un.keep b o (u1.keep b o e nn hb hx) (u1.free b o e nn hx) (fun z => ?_) (by simp)
      rw [hstk] at z
      rcases List.mem_cons.mp z with z | z
      · exact absurd (Heap.lt_size e) (by rw [z]; exact Nat.lt_irrefl _)
      · exact hb z
    · obtain ⟨sl, q⟩ := u1.slot b o e nn hb hx
      obtain ⟨sl', q'⟩ := un.slot b _ q (u1.free b o e nn hx) (by rw [hstk]; exact List.mem_cons_of_mem _ hb) (by simp)
      exact ⟨sl', q'⟩
    · obtain ⟨o', q⟩ := u1.there b o e hx
      exact un.free b o' q (u1.free b o e nn hx) (by simp)
    · obtain ⟨o', q⟩ := u1.there b o e hx
      exact un.there b o' q (by simp)
    · obtain ⟨m1, q1⟩ := u1.tbls b ps q
      obtain ⟨m2, q2⟩ := un.tbls b _ q1
      exact ⟨m1 ++ m2, by rw [q2, Array.append_assoc]⟩
  have inS : ∀ b, (s₀.heap.get? b).isSome = true → (s.heap.get? b).isSome = true := fun b hb => by
    obtain ⟨o, ho⟩ := Option.isSome_iff_exists.mp hb
    obtain ⟨o', q⟩ := (show Un (frs outer) [] H₀ H s₀.heap s.heap from I.base).there b o ho (by simp)
    rw [q]; rfl
  have nloc : ∀ b, (s₀.heap.get? b).isSome = true → b ≠ s₀.heap.objs.size := fun b hb z => by
    obtain ⟨o, ho⟩ := Option.isSome_iff_exists.mp hb
    exact absurd (Heap.lt_size ho) (by rw [z]; exact Nat.lt_irrefl _)
  have nstk : ∀ b, b ∉ frs outer → (H' b ≠ none ∨ (s₀.heap.get? b).isSome = true) → b ∉ frs ((cxOf (CX1 P w cv) P w K mg base N qual scope f cd A outer s₀ H₀ E)).stack := fun b hb hc z => by
    rcases hc with hc | hc
    · exact hc (hfr b z)
    · rw [hstk] at z
      rcases List.mem_cons.mp z with z | z
      · exact nloc b hc z
      · exact hb z
  refine ⟨ea, n, a0, B, H', rfl, hos.trans I.os, hg, hok_step hok hfr (fun b o e hb hc => keepB b o e hb (.inl hc)), un_step unA (fun b o e hb hc => keepB b o e (nstk b hb hc) (hc.imp id (inS b))) (fun b o e hb => ?_), fly', fun b o e hc hb => ?_, ?_⟩
  · obtain ⟨_, o', ho', hd⟩ := fly.2.2.1.mem (show b ∈ frs ((cxOf (CX1 P w cv) P w K mg base N qual scope f cd A outer s₀ H₀ E)).stack by rw [hstk]; exact List.mem_cons_of_mem _ hb)
    rw [e] at ho'
    cases ho'
    exact ups b o e hd
  · have hb' := nstk b hb hc
    obtain ⟨o', ho'⟩ : ∃ o', s'.heap.get? b = some o' := by
      rcases hc with hc | hc
      · cases q : H' b with
        | none => exact absurd q hc
        | some u =>
          exact obj_some (hok b u q)
      · obtain ⟨o1, h1⟩ := Option.isSome_iff_exists.mp hc
        exact unA.there b o1 h1 (by simp)
    have := hB b o' ho' (hc.imp id (inS b)) hb'
    rw [fly'.1 b o' this] at e
    cases e
    exact this
  · rw [hm]; exact hE
end
section
variable {X : Cx} {Xw : Nat → Hp → Prop} {cv : Nat → Value} {n : Nat} {C : Addr} {x : Str} {np cpos pos : Pos} {e : Expr} {es : List Expr} {δs : DA} {bm : List Value} {B newId initId : String}
end
end L3


set_option Elab.async false
set_option linter.all false
set_option maxRecDepth 100000
namespace L3
open PySem PySem.Spec L2 SeqAt
open PyProof.Rows hiding St

def kindD : D → Option String
  | .non => some "NoneType"
  | .bl _ => some "bool"
  | .int _ => some "int"
  | .str _ => some "str"
  | .tup _ => some "tuple"
  | .lst _ => some "list"
  | _ => none
def isiK (k T : String) : Option Bool := if T = "str" ∨ T = "int" ∨ T = "bool" ∨ T = "tuple" ∨ T = "list" then some (decide (k = T) || (decide (k = "bool") && decide (T = "int"))) else none
def isiM : List D → M D
  | [d, .raw (.ty T)] => match kindD d with
    | some k => match isiK k T with
      | some b => M.ret (.bl b)
      | none => M.stuck
    | none => M.stuck
  | _ => M.stuck
theorem kit_of {K : PySem.W.Frag} {k T : String} {b : Bool} (hk : k = "NoneType" ∨ k = "bool" ∨ k = "int" ∨ k = "str" ∨ k = "tuple" ∨ k = "list") (h : isiK k T = some b) : PySem.W.kitOne K (.type k) (.type T) = some b := by
  unfold isiK at h
  split at h
  · rename_i hT
    cases h
    rcases hk with rfl | rfl | rfl | rfl | rfl | rfl <;> rcases hT with rfl | rfl | rfl | rfl | rfl <;> with_unfolding_all rfl
  · cases h
section
variable {X : Cx} {Xw : Nat → Hp → Prop} {a b e e2 : Expr} {es : List Expr} {δa δb : DE} {δs : DA} {pos p : Pos}
def rIsi (K : PySem.W.Frag) : List V → Hp → VK → Prop := fun xs H Q => ∃ x T t b, xs = [x, .ty T] ∧ TyOf K H x t ∧ PySem.W.kitOne K t (.type T) = some b ∧ Q (.bl b) H
theorem call_isi : CallR X (.builtin "isinstance") (rIsi X.K) := by
  intro pins s σ H xs us Q I r h
  obtain ⟨x, T, t, b, rfl, ty, e, q⟩ := h
  obtain ⟨u, w', rfl, r1, r2⟩ := vals2 r
  cases (show w' = _ from r2)
  exact isinst_ok I r1 ty e fun tk => ⟨.bl b, H, I.tok tk, rfl, q⟩
theorem tyOf_den {K : PySem.W.Frag} {F H : Hp} {d : D} {v : V} {k : String} (s : Same F H) (h : Den K F d v) (hk : kindD d = some k) : TyOf K H v (.type k) ∧ (k = "NoneType" ∨ k = "bool" ∨ k = "int" ∨ k = "str" ∨ k = "tuple" ∨ k = "list") := by
  cases d with
  | non => cases hk; cases (show _ = _ from h); exact ⟨.non, .inl rfl⟩
  | bl x => cases hk; cases (show _ = _ from h); exact ⟨.bl x, .inr (.inl rfl)⟩
  | int x => cases hk; cases (show _ = _ from h); exact ⟨.int x, .inr (.inr (.inl rfl))⟩
  | str x => cases hk; cases (show _ = _ from h.1); exact ⟨.str x, .inr (.inr (.inr (.inl rfl)))⟩
  | tup x => cases hk; obtain ⟨a, vs, rfl, h2, _⟩ := h; exact ⟨.tup (s _ _ h2), .inr (.inr (.inr (.inr (.inl rfl))))⟩
  | lst x => cases hk; obtain ⟨a, vs, rfl, h2, _⟩ := h; exact ⟨.lst (s _ _ h2), .inr (.inr (.inr (.inr (.inr rfl))))⟩
  | _ => cases hk
theorem isi_callD {K : PySem.W.Frag} : CallD K (rIsi K) isiM := fun Xw F H vs ds Q s h w => by
  unfold isiM at w
  split at w
  · rename_i d T
    obtain ⟨v, v', rfl, h1, h2⟩ := h.two
    cases (show _ = _ from h2)
    split at w
    · rename_i k hk
      split at w
      · rename_i b hb
        obtain ⟨ty, hk'⟩ := tyOf_den s h1 hk
        exact ⟨v, T, .type k, b, rfl, ty, kit_of hk' hb, WP.now w s rfl⟩
      · exact w.elim
    · exact w.elim
  · exact w.elim
theorem pd_isi (hg : Gl X "isinstance") (hm : X.mg "isinstance" = none) (hb : bootBuiltins "isinstance" = some (.builtin "isinstance")) (ha : PDA X Xw [e, e2] δs) (he : starEach [e, e2] X.env = (false, eval e X.env) :: starEach [e2] X.env := by rfl)
    (hpl : (backTo pos (starEach [e2] X.env)).any (·.1) = false := by rfl) : PD X Xw (.Call (.Name "isinstance" p) [e, e2] [] pos) (dA isiM δs) :=
  pd_callB call_isi isi_callD hg hm hb ha (by decide) (by decide) he hpl
theorem pd_ty {x : Str} {T : String} (hg : Gl X x) (hm : X.mg x = none) (hv : bootBuiltins x = some (.type T)) (hn : x ≠ "__name__" := by decide) (hd : (x == ("__debug__" : Str)) = false := by decide) : PD X Xw (.Name x pos) (dC (.raw (.ty T))) :=
  pd_const (v := .ty T) (pe_bltn hg hm hv (show RelV (.ty T) (.type T) from rfl) hn hd) fun _ => rfl

def bools : List D → Option (List Bool)
  | [] => some []
  | .bl b :: r => (bools r).map (b :: ·)
  | _ => none
def allM : List D → M D
  | [.lst ds] => match bools ds with
    | some bs => M.ret (.bl (bs.all id))
    | none => M.stuck
  | _ => M.stuck
theorem bools_den {K : PySem.W.Frag} {F : Hp} : ∀ {ds : List D} {vs : List V} {bs : List Bool}, bools ds = some bs → DenL K F ds vs → vs = bs.map V.bl
  | [], _, _, e, h => by cases e; exact h
  | .bl b :: r, _, _, e, ⟨v, r', h1, h2, h3⟩ => by
    unfold bools at e
    cases q : bools r with
    | none => rw [q] at e; cases e
    | some bs => rw [q] at e; cases e; subst h1; rw [bools_den q h3, show v = .bl b from h2]; rfl
  | .non :: _, _, _, e, _ => by cases e
  | .int _ :: _, _, _, e, _ => by cases e
  | .str _ :: _, _, _, e, _ => by cases e
  | .raw _ :: _, _, _, e, _ => by cases e
  | .exc _ :: _, _, _, e, _ => by cases e
  | .scr _ :: _, _, _, e, _ => by cases e
  | .tup _ :: _, _, _, e, _ => by cases e
  | .lst _ :: _, _, _, e, _ => by cases e
theorem vals_bl : ∀ {bs : List Bool} {its : List Value}, Vals (bs.map V.bl) its → its = bs.map Value.bool
  | [], _, r => by cases r; rfl
  | b :: bs, _, r => by
    cases r with
    | cons r1 r2 => cases (show _ = _ from r1); rw [vals_bl r2]; rfl
def rAll : List V → Hp → VK → Prop := fun xs H Q => ∃ (a : Addr) (bs : List Bool), xs = [.ref a] ∧ H a = some (.lst (bs.map V.bl)) ∧ Q (.bl (bs.all id)) H
theorem all_range {bs : List Bool} : (List.range bs.length).all (fun i => bs.getD i false) = bs.all id := by
  induction bs with
  | nil => rfl
  | cons b bs ih =>
    rw [List.length_cons, List.range_succ_eq_map, List.all_cons, List.all_map, List.all_cons]
    congr 1
theorem call_all' (hc : X.calm = true) : CallR X (.builtin "all") rAll := by
  intro pins s σ H xs us Q I r h
  obtain ⟨a, bs, rfl, hH, q⟩ := h
  obtain ⟨u, rfl, r1⟩ := vals1 r
  cases (show u = _ from r1)
  obtain ⟨its, r2, pl, hz⟩ := I.list (SqL.of (K := X.K) hH)
  obtain rfl := vals_bl r2
  have hne : a ≠ s.heap.objs.size := Nat.ne_of_lt (I.hok.lt hH)
  refine call_all_walk (wpAny_pyIter_list pl.isList ?_)
  refine ⟨s.heap.objs.size, _, _, _, _, _, fun i => bs.getD i false, rfl, Walks.list (A := X.A.in1) (show X.A.in1.handled = none from I.ok.hd hc) s.heap.objs.size a hne (bs.map Value.bool).toArray, ⟨⟨_, Heap.get?_push_size _ rfl, rfl, rfl⟩, Heap.IsList.at pl.isList fun o e => Heap.get?_push_of_some _ e⟩, ?_, fun h' tk k => ?_⟩
  · intro i v s' Q' E' hv hq
    have hv : (bs.map Value.bool).toArray[i]? = some v := hv
    rw [List.getElem?_toArray, List.getElem?_map] at hv
    cases q' : bs[i]? with
    | none => rw [q'] at hv; cases hv
    | some b =>
      rw [q'] at hv
      cases hv
      have : bs.getD i false = b := by rw [List.getD_eq_getElem?_getD, q']; rfl
      have hq : Q' (bs.getD i false) s' := hq
      rw [this] at hq
      exact wpAny_truthy_bool hq
  · have e : (List.range (bs.map Value.bool).toArray.size).all (fun i => bs.getD i false) = bs.all id := by
      rw [List.size_toArray, List.length_map]; exact all_range
    rw [e]
    refine ⟨.bl (bs.all id), H, I.kept (h' := h') (t' := tk) fun b o e' => k b o (fun z => ?_) (Heap.get?_push_of_some _ e'), rfl, q⟩
    have z : b = s.heap.objs.size := by simpa using z
    exact absurd (Heap.lt_size e') (by rw [z]; exact Nat.lt_irrefl _)
theorem pd_all (hc : X.calm = true) (hg : Gl X "all") (hm : X.mg "all" = none) (hb : bootBuiltins "all" = some (.builtin "all")) (ha : PDA X Xw [e] δs) (he : starEach [e] X.env = [(false, eval e X.env)] := by rfl) : PD X Xw (.Call (.Name "all" p) [e] [] pos) (dA allM δs) :=
  pd_callB (call_all' hc) (fun Xw F H vs ds Q s h w => by
    unfold allM at w
    split at w
    · rename_i ds
      obtain ⟨v, rfl, h1⟩ := h.one
      obtain ⟨a, ws, rfl, h2, h3, _⟩ := h1
      split at w
      · rename_i bs hb
        exact ⟨a, bs, rfl, by rw [← bools_den hb h3]; exact s _ _ h2, WP.now w s rfl⟩
      · exact w.elim
    · exact w.elim) hg hm hb ha (by decide) (by decide) he rfl
end
end L3


set_option Elab.async false
set_option linter.all false
set_option maxRecDepth 100000
namespace L3
open PySem PySem.Spec L2 SeqAt
open PyProof.Rows hiding St

section
variable {X : Cx} {Xw : Nat → Hp → Prop} {a b e e2 : Expr} {es : List Expr} {δ δa δb : DE} {δs : DA} {pos p apos cpos : Pos}
theorem tApp_of {i : Nat} : ∀ F₀ H₀ D σ H, tS X.K Xw F₀ H₀ (sApp i δ) D σ H → tDrop (tBM X.K "list" rAppend (tVar i) (tCons (tD X.K Xw δ) tNil)) D σ H := fun F₀ H₀ D σ H ⟨F, ρ, s, w⟩ => by
  unfold sApp at w
  cases ho : ownL ρ i with
  | none => rw [ho] at w; exact w.elim
  | some ds =>
    rw [ho] at w
    have hi := ownL_some ho
    obtain ⟨v, hv, a, o, rfl, hH, hF, vs, rfl, hd, hl⟩ := s.st.den i _ hi
    have w : WPS X.K Xw F₀ H₀ (δ ρ >>= fun d => if ds.length < lim then M.ret (.nx (ρ.set i (some (.ow (.lst (ds ++ [d])))))) else M.stuck) D := w
    refine ⟨.ref a, hv, .inl ⟨rfl, vs, SqL.of hH⟩, F, ρ, s.st, ?_⟩
    rcases (δ ρ).cs with q | ⟨n, q⟩ | ⟨d, q⟩
    · rw [q] at w; exact w.elim
    · rw [q] at w ⊢; exact fun F' H' e' => w F' H' (s.ext.trans e')
    · rw [q] at w ⊢
      intro u H1 F1 e1 hq
      have w : WPS X.K Xw F₀ H₀ (if ds.length < lim then M.ret (.nx (ρ.set i (some (.ow (.lst (ds ++ [d])))))) else M.stuck) D := w
      split at w
      · rename_i hlt
        have hlen := hd.len
        refine ⟨a, vs, u, rfl, rfl, e1.hh _ _ hH, by have := lim_lt; omega, ?_⟩
        exact w σ F1 _ ((s.ext' e1).chg (c₀ := .lst (ds ++ [d])) hi hv ⟨_, rfl, DenL.append (DenL.mono e1.ff hd) (.cons hq .nil), by rw [List.length_append]; exact hlt⟩)
      · exact w.elim
theorem tExt_of {i : Nat} : ∀ F₀ H₀ D σ H, tS X.K Xw F₀ H₀ (sExt i δ) D σ H → tDrop (tBM X.K "list" rExtend (tVar i) (tCons (tD X.K Xw δ) tNil)) D σ H := fun F₀ H₀ D σ H ⟨F, ρ, s, w⟩ => by
  unfold sExt at w
  cases ho : ownL ρ i with
  | none => rw [ho] at w; exact w.elim
  | some ds =>
    rw [ho] at w
    have hi := ownL_some ho
    obtain ⟨v, hv, a, o, rfl, hH, hF, vs, rfl, hd, hl⟩ := s.st.den i _ hi
    have w : WPS X.K Xw F₀ H₀ (δ ρ >>= fun d => lstM d >>= fun es => if ds.length + es.length ≤ lim then M.ret (.nx (ρ.set i (some (.ow (.lst (ds ++ es)))))) else M.stuck) D := w
    refine ⟨.ref a, hv, .inl ⟨rfl, vs, SqL.of hH⟩, F, ρ, s.st, ?_⟩
    rcases (δ ρ).cs with q | ⟨n, q⟩ | ⟨d, q⟩
    · rw [q] at w; exact w.elim
    · rw [q] at w ⊢; exact fun F' H' e' => w F' H' (s.ext.trans e')
    · rw [q] at w ⊢
      intro u H1 F1 e1 hq
      cases d with
      | lst es =>
        obtain ⟨b, ws, rfl, k2, k3, k4⟩ := hq
        have w : WPS X.K Xw F₀ H₀ (if ds.length + es.length ≤ lim then M.ret (.nx (ρ.set i (some (.ow (.lst (ds ++ es)))))) else M.stuck) D := w
        split at w
        · rename_i hlt
          have hlen := hd.len
          have hlen' := k3.len
          refine ⟨a, b, vs, ws, rfl, rfl, e1.hh _ _ hH, e1.fh _ _ k2, by have := lim_lt; omega, ?_⟩
          exact w σ F1 _ ((s.ext' e1).chg (c₀ := .lst (ds ++ es)) hi hv ⟨_, rfl, DenL.append (DenL.mono e1.ff hd) k3, by rw [List.length_append]; exact hlt⟩)
        · exact w.elim
      | _ => exact w.elim
theorem psd_app {i : Nat} {x : Str} (hv : PE X (.Name x p) (tVar i)) (he : PD X Xw e δ) (hs : swapsWith (.Call (.Attribute (.Name x p) "append" apos) [e] [] cpos) none pos.line X.env = pure false := by rfl)
    (hbase : attributeBase (.Name x p) "append" X.env (eval (.Name x p) X.env) = eval (.Name x p) X.env := by rfl)
    (hfew : ((backTo cpos (starEach [e] X.env)).all (fun x => !x.1) && (backToKw cpos (keywordEach [] X.env)).all (fun x => x.1.isSome) && decide ([e].length + ([] : List Keyword).length + (if ([] : List Keyword).isEmpty then 0 else 1) < 30)) = true := by rfl)
    (hline : (apos.endLine == cpos.line) = true := by rfl) (hst : starEach [e] X.env = [(false, eval e X.env)] := by rfl) : PSD X Xw (.Expr (.Call (.Attribute (.Name x p) "append" apos) [e] [] cpos) pos) (sApp i δ) := fun F₀ H₀ =>
  PS.weak (ps_expr (pe_bm PySem.F.plainAttrs_list PySem.F.slot_list_append PySem.F.type_list_append mt_append hv (pa_cons he pa_nil hst) hbase hfew hline hst rfl) hs) fun D σ H w => tApp_of F₀ H₀ D σ H w
theorem psd_ext {i : Nat} {x : Str} (hv : PE X (.Name x p) (tVar i)) (he : PD X Xw e δ) (hs : swapsWith (.Call (.Attribute (.Name x p) "extend" apos) [e] [] cpos) none pos.line X.env = pure false := by rfl)
    (hbase : attributeBase (.Name x p) "extend" X.env (eval (.Name x p) X.env) = eval (.Name x p) X.env := by rfl)
    (hfew : ((backTo cpos (starEach [e] X.env)).all (fun x => !x.1) && (backToKw cpos (keywordEach [] X.env)).all (fun x => x.1.isSome) && decide ([e].length + ([] : List Keyword).length + (if ([] : List Keyword).isEmpty then 0 else 1) < 30)) = true := by rfl)
    (hline : (apos.endLine == cpos.line) = true := by rfl) (hst : starEach [e] X.env = [(false, eval e X.env)] := by rfl) : PSD X Xw (.Expr (.Call (.Attribute (.Name x p) "extend" apos) [e] [] cpos) pos) (sExt i δ) := fun F₀ H₀ =>
  PS.weak (ps_expr (pe_bm PySem.F.plainAttrs_list PySem.F.slot_list_extend PySem.F.type_list_extend mt_extend hv (pa_cons he pa_nil hst) hbase hfew hline hst rfl) hs) fun D σ H w => tExt_of F₀ H₀ D σ H w
theorem op_catT0 : OpR X (binaryOp .Add) (fun x y H Q => ∃ a b ys, x = .ref a ∧ y = .ref b ∧ SqT X.K H a [] ∧ SqT X.K H b ys ∧ Q (.ref b) H) := by
  intro pins s σ H x y v u Q I rx ry h
  obtain ⟨a, b, ys, rfl, rfl, ha, hb, q⟩ := h
  cases rx
  cases ry
  obtain ⟨its, r1, p1, _⟩ := I.tuple ha
  obtain ⟨its2, r2, p2, _⟩ := I.tuple hb
  cases r1
  obtain ⟨⟨cls, dd, data, sl⟩, ho, hc, n, hd⟩ := id p1
  obtain ⟨⟨cls2, dd2, data2, sl2⟩, ho2, hc2, n2, hd2⟩ := id p2
  simp only at hc hd hc2 hd2
  subst hc hd hc2 hd2
  exact concat_meets ⟨_, ho, rfl⟩ ⟨_, ho2, rfl⟩ noFill_tuple_add seq_tuple_add PySem.F.slot_tuple_add PySem.F.entry_tuple_add (PySem.F.args_tuple_add_2 _ _)
    (tuple_addW0 a b _ _ n n2 dd dd2 sl sl2 (by simp)) ⟨ho, ho2, ⟨.ref b, H, I, rfl, q⟩⟩
def gCatT : D → D → M D
  | .tup x, .tup y => if x.length + y.length ≤ lim then M.ret (.tup (x ++ y)) else M.stuck
  | _, _ => M.stuck
theorem pd_catT (ha : PD X Xw a δa) (hb : PD X Xw b δb) : PD X Xw (.BinOp a .Add b pos) (d2 gCatT δa δb) := pd_op (op_catT0.or op_catT) (fun Xw F H x y dx dy Q s hx hy w => by
  unfold gCatT at w
  split at w
  · rename_i i j
    obtain ⟨a, vs, h1, h2, h3, h4⟩ := hx
    obtain ⟨a', vs', k1, k2, k3, k4⟩ := hy
    split at w
    · rename_i hl
      have e1 := h3.len
      have e2 := k3.len
      have := lim_lt
      by_cases hv : vs = []
      · subst hv
        have : i = [] := by cases i with | nil => rfl | cons _ _ => simp at e1
        subst this
        exact .inl ⟨a, a', vs', h1, k1, SqT.of (s _ _ h2), SqT.of (s _ _ k2), WP.now w s ⟨a', vs', k1 ▸ rfl, k2, k3, k4⟩⟩
      · refine .inr ⟨a, a', vs, vs', h1, k1, SqT.of (s _ _ h2), SqT.of (s _ _ k2), hv, by omega, fun z => ?_, fun z p hp => ?_⟩
        · subst z
          have : j = [] := by cases j with | nil => rfl | cons _ _ => simp at e2
          subst this
          rw [List.append_nil] at w
          exact WP.now w s ⟨a, vs, rfl, h2, h3, h4⟩
        · exact WP.fin w (Ext.lay s hp) ⟨p, _, rfl, upd_same, DenL.mono (Ext.lay s hp).ff (h3.append k3), by rw [List.length_append]; exact hl⟩
    · exact w.elim
  · exact w.elim) ha hb
end
end L3


set_option Elab.async false
set_option linter.all false
set_option maxRecDepth 100000
namespace L3
open PySem PySem.Spec L2 SeqAt
open PyProof.Rows hiding St

section
variable {X : Cx} {Xw : Nat → Hp → Prop} {a b e e2 o : Expr} {es : List Expr} {δ δa δb δo : DE} {δs : DA} {pos p apos cpos : Pos}
def dM (kd : D → Bool) (g : D → List D → M D) (o : DE) (s : DA) : DE := fun ρ => o ρ >>= fun d => if kd d then s ρ >>= fun ds => g d ds else M.stuck
theorem pd_bm {T : String} {name : Str} {id : String} {r : V → List V → Hp → VK → Prop} {kd : D → Bool} {g : D → List D → M D} (pa : PlainAttrs T) (slot : Slot T name id) (hty : typeOf (.builtin id) = pure (.type "method_descriptor")) (hm : MtR X id r)
    (hk : ∀ (F H : Hp) (x : V) (d : D), kd d = true → Same F H → Den X.K F d x → tyV X.K T x H)
    (hd : ∀ (Xw : Nat → Hp → Prop) (F H : Hp) (x : V) (vs : List V) (d : D) (ds : List D) (Q : VK), Same F H → Den X.K F d x → DenL X.K F ds vs → WP X.K Xw F H (g d ds) Q → r x vs H Q)
    (ho : PD X Xw o δo) (ha : PDA X Xw (e :: es) δs)
    (hbase : attributeBase o name X.env (eval o X.env) = eval o X.env := by rfl)
    (hfew : ((backTo cpos (starEach (e :: es) X.env)).all (fun x => !x.1) && (backToKw cpos (keywordEach [] X.env)).all (fun x => x.1.isSome)
      && decide ((e :: es).length + ([] : List Keyword).length + (if ([] : List Keyword).isEmpty then 0 else 1) < 30)) = true := by rfl)
    (hline : (apos.endLine == cpos.line) = true := by rfl) (hs : starEach (e :: es) X.env = (false, eval e X.env) :: starEach es X.env := by rfl) (hplain : (backTo cpos (starEach es X.env)).any (·.1) = false := by rfl) :
    PD X Xw (.Call (.Attribute o name apos) (e :: es) [] cpos) (dM kd g δo δs) := PE.weak (pe_bm pa slot hty hm ho ha hbase hfew hline hs hplain) fun σ H Q ⟨F, ρ, s, w⟩ => by
  refine ⟨F, ρ, s, WP.mono (WP.bind w) fun v H1 ⟨F1, d, e1, q1, w1⟩ => ?_⟩
  split at w1
  · rename_i hkd
    refine ⟨hk F1 H1 v d hkd e1.fh q1, F1, ρ, s.ext e1, WPL.mono (WP.bindL w1) fun vs H2 ⟨F2, ds, e2, q2, w2⟩ => ?_⟩
    exact hd Xw F2 H2 v vs d ds Q e2.fh (Den.mono e2.ff q1) q2 w2
  · exact w1.elim
def isS : D → Bool
  | .str _ => true
  | _ => false
theorem isS_ty {K : PySem.W.Frag} (F H : Hp) (x : V) (d : D) (h : isS d = true) (s : Same F H) (q : Den K F d x) : tyV K "str" x H := by
  cases d with
  | str z => cases (show _ = _ from q.1); exact rfl
  | _ => cases h
def txts : List D → Option (List Str)
  | [] => some []
  | .str x :: r => (txts r).map (x :: ·)
  | _ => none
theorem txts_den {K : PySem.W.Frag} {F : Hp} : ∀ {ds : List D} {vs : List V} {xs : List Str}, txts ds = some xs → DenL K F ds vs → vs = xs.map V.str
  | [], _, _, e, h => by cases e; exact h
  | .str b :: r, _, _, e, ⟨v, r', h1, h2, h3⟩ => by
    unfold txts at e
    cases q : txts r with
    | none => rw [q] at e; cases e
    | some bs => rw [q] at e; cases e; subst h1; rw [txts_den q h3, show v = .str b from h2.1]; rfl
  | .non :: _, _, _, e, _ => by cases e
  | .int _ :: _, _, _, e, _ => by cases e
  | .bl _ :: _, _, _, e, _ => by cases e
  | .raw _ :: _, _, _, e, _ => by cases e
  | .exc _ :: _, _, _, e, _ => by cases e
  | .scr _ :: _, _, _, e, _ => by cases e
  | .tup _ :: _, _, _, e, _ => by cases e
  | .lst _ :: _, _, _, e, _ => by cases e
theorem vals_str : ∀ {xs : List Str} {its : List Value}, Vals (xs.map V.str) its → StrsAre its xs
  | [], _, r => by cases r; exact .nil
  | b :: bs, _, r => by
    cases r with
    | cons r1 r2 => obtain ⟨t, rfl⟩ := r1; exact .cons b t (vals_str r2)
def catS : List Str → Str
  | [] => ⟨#[]⟩
  | x :: r => x ++ catS r
def joinM : D → List D → M D
  | .str sep, [.lst ds] => match txts ds with
    | some xs => if sep.length = 0 ∧ (xs.map (·.length)).sum ≤ lim then M.ret (.str (catS xs)) else M.stuck
    | none => M.stuck
  | .str sep, [.tup ds] => match txts ds with
    | some xs => if sep.length = 0 ∧ (xs.map (·.length)).sum ≤ lim then M.ret (.str (catS xs)) else M.stuck
    | none => M.stuck
  | _, _ => M.stuck
theorem catS_len : ∀ xs : List Str, (catS xs).length = (xs.map (·.length)).sum
  | [] => rfl
  | x :: r => by
    show (x ++ catS r).length = _
    rw [str_len_append, catS_len r, List.map_cons, List.sum_cons]
theorem str_nil {x : Str} (h : x.length = 0) : x = ⟨#[]⟩ := by
  obtain ⟨⟨l⟩⟩ := x
  have : l.length = 0 := h
  cases l with
  | nil => rfl
  | cons _ _ => simp at this
theorem str_app_nil (x : Str) : x ++ (⟨#[]⟩ : Str) = x := by
  obtain ⟨c⟩ := x
  show (⟨c ++ #[]⟩ : Str) = ⟨c⟩
  simp
theorem join_nil_eq (sep : Str) (h : sep.length = 0) : ∀ xs : List Str, Txt.join sep xs = catS xs := by
  have e := str_nil h
  subst e
  intro xs
  show Builtin.Str.glued _ xs = _
  rw [StrLaws.glued_eq_join]
  induction xs with
  | nil => rfl
  | cons x r ih =>
    cases r with
    | nil => show x = x ++ (⟨#[]⟩ : Str); rw [str_app_nil]
    | cons y r => show x ++ (⟨#[]⟩ : Str) ++ Str.join _ (y :: r) = x ++ catS (y :: r); rw [str_app_nil, ih]
def rJoin (K : PySem.W.Frag) : V → List V → Hp → VK → Prop := fun x vs H Q => ∃ (sep : Str) (a : Addr) (xs : List Str), x = .str sep ∧ vs = [.ref a] ∧ (H a = some (.lst (xs.map V.str)) ∨ H a = some (.tup (xs.map V.str))) ∧ sep.length = 0 ∧ (xs.map (·.length)).sum ≤ lim ∧ Q (.str (catS xs)) H
theorem mt_join : MtR X "str.join" (rJoin X.K) := by
  intro pins s σ H x vs v us Q I rx rv h
  obtain ⟨sep, a, xs, rfl, rfl, hH, hs, hl, q⟩ := h
  obtain ⟨t, rfl⟩ := rx
  obtain ⟨u, rfl, r1⟩ := rv.one
  cases (show u = _ from r1)
  have hok : (xs.map (·.length)).sum + xs.length * sep.length ≤ 16777216 := by
    rw [hs, Nat.mul_zero]
    unfold lim at hl
    omega
  rcases hH with hH | hH
  · obtain ⟨its, r2, pl, hz⟩ := I.list (SqL.of (K := X.K) hH)
    refine join_list pl.isList (by simpa using vals_str r2) hok fun t' k => ⟨.str (catS xs), H, I.tok k, ⟨t', by rw [join_nil_eq sep hs]⟩, q⟩
  · obtain ⟨its, r2, pl, hz⟩ := I.tuple (SqT.of (K := X.K) hH)
    refine join_tuple pl (by simpa using vals_str r2) hok fun t' k => ⟨.str (catS xs), H, I.tok k, ⟨t', by rw [join_nil_eq sep hs]⟩, q⟩
theorem pd_join (ho : PD X Xw o δo) (ha : PDA X Xw [e] δs) (hbase : attributeBase o "join" X.env (eval o X.env) = eval o X.env := by rfl)
    (hfew : ((backTo cpos (starEach [e] X.env)).all (fun x => !x.1) && (backToKw cpos (keywordEach [] X.env)).all (fun x => x.1.isSome) && decide ([e].length + ([] : List Keyword).length + (if ([] : List Keyword).isEmpty then 0 else 1) < 30)) = true := by rfl)
    (hline : (apos.endLine == cpos.line) = true := by rfl) (hst : starEach [e] X.env = [(false, eval e X.env)] := by rfl) : PD X Xw (.Call (.Attribute o "join" apos) [e] [] cpos) (dM isS joinM δo δs) :=
  pd_bm PySem.F.plainAttrs_str PySem.F.slot_str_join PySem.F.type_str_join mt_join isS_ty (fun Xw F H x vs d ds Q s hx hv w => by
    unfold joinM at w
    split at w
    · rename_i sep ds
      obtain ⟨v, rfl, h1⟩ := hv.one
      obtain ⟨a, ws, rfl, h2, h3, _⟩ := h1
      split at w
      · rename_i xs hxs
        split at w
        · rename_i hc
          exact ⟨sep, a, xs, hx.1, rfl, .inl (by rw [← txts_den hxs h3]; exact s _ _ h2), hc.1, hc.2, WP.now w s ⟨rfl, by rw [catS_len]; exact hc.2⟩⟩
        · exact w.elim
      · exact w.elim
    · rename_i sep ds
      obtain ⟨v, rfl, h1⟩ := hv.one
      obtain ⟨a, ws, rfl, h2, h3, _⟩ := h1
      split at w
      · rename_i xs hxs
        split at w
        · rename_i hc
          exact ⟨sep, a, xs, hx.1, rfl, .inr (by rw [← txts_den hxs h3]; exact s _ _ h2), hc.1, hc.2, WP.now w s ⟨rfl, by rw [catS_len]; exact hc.2⟩⟩
        · exact w.elim
      · exact w.elim
    · exact w.elim) ho ha hbase hfew hline hst rfl
theorem pd_max (hc : X.calm = true) (hg : Gl X "max") (hm : X.mg "max" = none) (hb : bootBuiltins "max" = some (.builtin "max")) (ha : PDA X Xw [e, e2] δs) (he : starEach [e, e2] X.env = (false, eval e X.env) :: starEach [e2] X.env := by rfl)
    (hpl : (backTo pos (starEach [e2] X.env)).any (·.1) = false := by rfl) : PD X Xw (.Call (.Name "max" p) [e, e2] [] pos) (dA maxM δs) :=
  pd_callB (call_max2 hc) (fun Xw F H vs ds Q s h w => by
    unfold maxM at w
    split at w
    · obtain ⟨v, v', rfl, h1, h2⟩ := h.two
      cases (show _ = _ from h1)
      cases (show _ = _ from h2)
      exact ⟨_, _, rfl, WP.now w s rfl⟩
    · exact w.elim) hg hm hb ha (by decide) (by decide) he hpl
theorem pd_min (hc : X.calm = true) (hg : Gl X "min") (hm : X.mg "min" = none) (hb : bootBuiltins "min" = some (.builtin "min")) (ha : PDA X Xw [e, e2] δs) (he : starEach [e, e2] X.env = (false, eval e X.env) :: starEach [e2] X.env := by rfl)
    (hpl : (backTo pos (starEach [e2] X.env)).any (·.1) = false := by rfl) : PD X Xw (.Call (.Name "min" p) [e, e2] [] pos) (dA minM δs) :=
  pd_callB (call_min2 hc) (fun Xw F H vs ds Q s h w => by
    unfold minM at w
    split at w
    · obtain ⟨v, v', rfl, h1, h2⟩ := h.two
      cases (show _ = _ from h1)
      cases (show _ = _ from h2)
      exact ⟨_, _, rfl, WP.now w s rfl⟩
    · exact w.elim) hg hm hb ha (by decide) (by decide) he hpl
def nums : List D → Option (List Int)
  | [] => some []
  | .int x :: r => (nums r).map (x :: ·)
  | _ => none
theorem ints_den {K : PySem.W.Frag} {F : Hp} : ∀ {ds : List D} {vs : List V} {xs : List Int}, nums ds = some xs → DenL K F ds vs → vs = xs.map V.int
  | [], _, _, e, h => by cases e; exact h
  | .int b :: r, _, _, e, ⟨v, r', h1, h2, h3⟩ => by
    unfold nums at e
    cases q : nums r with
    | none => rw [q] at e; cases e
    | some bs => rw [q] at e; cases e; subst h1; rw [ints_den q h3, show v = .int b from h2]; rfl
  | .non :: _, _, _, e, _ => by cases e
  | .str _ :: _, _, _, e, _ => by cases e
  | .bl _ :: _, _, _, e, _ => by cases e
  | .raw _ :: _, _, _, e, _ => by cases e
  | .exc _ :: _, _, _, e, _ => by cases e
  | .scr _ :: _, _, _, e, _ => by cases e
  | .tup _ :: _, _, _, e, _ => by cases e
  | .lst _ :: _, _, _, e, _ => by cases e
def gInI (neg : Bool) : D → D → M D
  | .int i, .tup ds => match nums ds with | some ns => M.ret (.bl (if neg then !ns.contains i else ns.contains i)) | none => M.stuck
  | _, _ => M.stuck
theorem inV_ints (i : Int) (ns : List Int) : inV (.int i) (ns.map V.int) = ns.contains i := by
  unfold inV
  rw [List.any_map]
  induction ns with
  | nil => rfl
  | cons n ns ih =>
    rw [List.any_cons, List.contains_cons, ih]
    congr 1
    show eqV (.int n) (.int i) = (i == n)
    unfold eqV
    exact Bool.beq_comm
theorem inI_op {neg : Bool} {K : PySem.W.Frag} : OpD K (rIn K neg) (gInI neg) := fun Xw F H x y dx dy Q s hx hy w => by
  unfold gInI at w
  split at w
  · rename_i i ds
    obtain ⟨a, vs, h1, h2, h3, h4⟩ := hy
    split at w
    · rename_i ns hn
      have hv := ints_den hn h3
      subst hv
      cases (show _ = _ from hx)
      refine ⟨a, ns.map V.int, h1, .inr (SqT.of (s _ _ h2)), rfl, ?_, ?_⟩
      · rw [List.all_map]
        exact List.all_eq_true.mpr fun _ _ => rfl
      · rw [inV_ints]
        exact WP.now w s rfl
    · exact w.elim
  · exact w.elim
theorem pt_notinI (ha : PD X Xw a δa) (hb : PD X Xw b δb) (hm : behindInMarks .NotIn b = false := by rfl) : PDT X Xw (.Compare a [.NotIn] [b] pos) (tB' (d2 (gInI true) δa δb)) := pt_cmp' op_notIn_seq inI_op ha hb hm
def gInS (neg : Bool) : D → D → M D
  | .str x, .str y => M.ret (.bl (if neg then !(!(Builtin.Str.occurrences y x 0 y.length 1).isEmpty) else !(Builtin.Str.occurrences y x 0 y.length 1).isEmpty))
  | _, _ => M.stuck
theorem pd_inS (ha : PD X Xw a δa) (hb : PD X Xw b δb) (hm : behindInMarks .In b = false := by rfl) : PD X Xw (.Compare a [.In] [b] pos) (d2 (gInS false) δa δb) := pd_cmp op_in_str (fun Xw F H x y dx dy Q s hx hy w => by
  unfold gInS at w
  split at w
  · exact ⟨_, _, hx.1, hy.1, WP.now w s rfl⟩
  · exact w.elim) ha hb hm
end
end L3


set_option Elab.async false
set_option linter.all false
set_option maxRecDepth 100000
namespace L3
open PySem PySem.Spec L2 SeqAt HT
open PyProof.Rows hiding St

section
variable {prog : Program} {w : World} {A : Around} {E : Value → Shared → Prop} {s : Shared}
theorem getItem_tuple_whole {t sl : Addr} {items : Array Value} {vl vu : Value} {lo hi : Option Int} {Q : Value → Shared → Prop} (ht : IsTup s.heap t items) (hs : s.heap.IsSliceOf sl vl vu .none) (pl : IsPart vl lo) (pu : IsPart vu hi)
    (hw : sIx items.size 0 lo = 0 ∧ sIx items.size items.size hi = items.size) (h : Q (.ref t) s) : wpAny (model prog w) A (getItem (.ref t) (.ref sl)) Q E s := by
  obtain ⟨os, hos, hcs, hds⟩ := id hs
  have hTs : s.TypeIs (.ref sl) "slice" := ⟨os, hos, hcs⟩
  unfold getItem
  try with_reducible refine wpAny_holding ?_
  first | refine wpAny_bind (wpAny_pure ?_) | skip
  refine wpAny_bind (wpAny_sequenceKey ht.typeIs (by decide) ?_)
  refine wpAny_bind (wpAny_callSpecial?_slot (name := Str.ofString "__getitem__") ht.typeIs PyProof.Rows.slot_tuple_getitem
    (wpAny_call_entry PyProof.Rows.slot_tuple_getitem ht.typeIs entry_tuple_getitem ?_ (args_tuple_getitem _ _)))
  show wpAny _ _ (Builtin.Tuple.tupleItemsOf (.ref t) >>= _) _ _ s
  refine wpAny_bind (tupleItemsOf_ ht ?_)
  refine wpAny_bind (wpAny_typeOf hTs ?_)
  rw [if_pos (by decide)]
  refine wpAny_bind (sliceApplied_gen hs pl pu ?_)
  have hno : ((((sIx items.size 0 lo : Nat) : Int) == 0 && (1 : Int) == 1 && (sIx items.size items.size hi - sIx items.size 0 lo) == items.size) = true) := by
    rw [hw.1, hw.2]
    simp
  show wpAny _ _ (if (((sIx items.size 0 lo : Nat) : Int) == 0 && (1 : Int) == 1 && (sIx items.size items.size hi - sIx items.size 0 lo) == items.size) = true then _ else _) _ _ s
  rw [if_pos hno]
  refine wpAny_bind ?_
  unfold Builtin.Tuple.tupleIsExact
  refine wpAny_bind (wpAny_typeOf ht.typeIs (wpAny_pure ?_))
  rw [if_pos (by decide)]
  exact wpAny_bind (wpAny_rule (wpAny_pure ⟨_, rfl, wpAny_pure h⟩))
end
section
variable {X : Cx} {Xw : Nat → Hp → Prop} {a b e : Expr} {lo hi : Option Expr} {δ δa δb : DE} {pos p p2 : Pos}
theorem sl_tupW : SlR X (fun x lo hi H Q => ∃ a xs, x = .ref a ∧ SqT X.K H a xs ∧ (sIx xs.length 0 lo = 0 ∧ sIx xs.length xs.length hi = xs.length) ∧ Q (.ref a) H) := by
  intro pins s σ H x v vl vu lo hi sl Q I rx hs pl pu h
  obtain ⟨a, xs, rfl, hx, hw, q⟩ := h
  cases rx
  obtain ⟨its, r, ht, hz⟩ := I.tuple hx
  have hlen : its.toArray.size = xs.length := by rw [List.size_toArray]; exact r.length.symm
  exact ⟨"tuple", _, PyProof.Rows.slot_tuple_getitem.lookup, ht.typeIs, getItem_tuple_whole ht hs pl pu (by rw [hlen]; exact hw) ⟨.ref a, H, I, rfl, q⟩⟩
theorem sl_str : SlR X (fun x lo hi H Q => ∃ z : Str, x = .str z ∧ z.length ≤ lim ∧ Q (.str (Txt.slice z lo hi)) H) := by
  intro pins s σ H x v vl vu lo hi sl Q I rx hs pl pu h
  obtain ⟨z, rfl, hl, q⟩ := h
  obtain ⟨t, rfl⟩ := rx
  have hz : z.length ≤ sizeLine := by have := lim_lt; omega
  cases pl with
  | none =>
    cases pu with
    | none => exact ⟨"str", _, PySem.F.slot_str_getitem.lookup, typeIs_str _ _ _, wpAny_getItem_str_slice (l := none) (u := none) (st := none) hs rfl (post_val_or_str ⟨Nat.le_trans (Txt.slice_le z _ _) hz, fun t' k => ⟨.str _, H, I.tok k, ⟨t', rfl⟩, q⟩⟩)⟩
    | int j uj => exact ⟨"str", _, PySem.F.slot_str_getitem.lookup, typeIs_str _ _ _, wpAny_getItem_str_slice (l := none) (u := some (j, uj)) (st := none) hs rfl (post_val_or_str ⟨Nat.le_trans (Txt.slice_le z _ _) hz, fun t' k => ⟨.str _, H, I.tok k, ⟨t', rfl⟩, q⟩⟩)⟩
  | int i ui =>
    cases pu with
    | none => exact ⟨"str", _, PySem.F.slot_str_getitem.lookup, typeIs_str _ _ _, wpAny_getItem_str_slice (l := some (i, ui)) (u := none) (st := none) hs rfl (post_val_or_str ⟨Nat.le_trans (Txt.slice_le z _ _) hz, fun t' k => ⟨.str _, H, I.tok k, ⟨t', rfl⟩, q⟩⟩)⟩
    | int j uj => exact ⟨"str", _, PySem.F.slot_str_getitem.lookup, typeIs_str _ _ _, wpAny_getItem_str_slice (l := some (i, ui)) (u := some (j, uj)) (st := none) hs rfl (post_val_or_str ⟨Nat.le_trans (Txt.slice_le z _ _) hz, fun t' k => ⟨.str _, H, I.tok k, ⟨t', rfl⟩, q⟩⟩)⟩
abbrev DO := Rho → M (Option Int)
def WPO (Xw : Nat → Hp → Prop) (F H : Hp) (m : M (Option Int)) (Q : Option Int → Hp → Prop) : Prop :=
  match m with
  | none => False
  | some (.ok b) => ∀ H' F', Ext F H F' H' → Q b H'
  | some (.ex n) => ∀ F' H', Ext F H F' H' → Xw n H'
def tDO (K : PySem.W.Frag) (Xw : Nat → Hp → Prop) (δ : DO) : TO := fun σ H Q => ∃ F ρ, StE K F H σ ρ ∧ WPO Xw F H (δ ρ) Q
def PDO (X : Cx) (Xw : Nat → Hp → Prop) (e : Option Expr) (δ : DO) : Prop := PO X e (tDO X.K Xw δ)
def oN : DO := fun _ => M.ret none
def oS (δ : DE) : DO := fun ρ => δ ρ >>= fun d => match d with | .int i => M.ret (some i) | _ => M.stuck
theorem pdo_none : PDO X Xw none oN := fun pins s σ H Q I ⟨F, ρ, S, w⟩ => po_none pins s σ H Q I (w H F (Ext.refl S.fh))
theorem pdo_some (h : PD X Xw e δ) : PDO X Xw (some e) (oS δ) := fun pins s σ H Q I ⟨F, ρ, S, w⟩ => po_some h pins s σ H Q I ⟨F, ρ, S, by
  have w : WPO Xw F H (δ ρ >>= fun d => match d with | .int i => M.ret (some i) | _ => M.stuck) Q := w
  rcases (δ ρ).cs with q | ⟨n, q⟩ | ⟨d, q⟩
  · rw [q] at w; exact w.elim
  · rw [q] at w ⊢; exact w
  · rw [q] at w ⊢
    intro v H' F' e' hd
    cases d with
    | int i => exact ⟨i, hd, w H' F' e'⟩
    | _ => exact w.elim⟩
theorem WP.bindO {K : PySem.W.Frag} {Xw : Nat → Hp → Prop} {F H : Hp} {Q : VK} {m : M (Option Int)} {k : Option Int → M D} (h : WP K Xw F H (m >>= k) Q) : WPO Xw F H m fun b H1 => ∃ F1, Ext F H F1 H1 ∧ WP K Xw F1 H1 (k b) Q := by
  match m, h with
  | none, h => exact h
  | some (.ok d), h => exact fun H2 F2 e2 => ⟨F2, e2, WP.ext e2 (show WP K Xw F H (k d) Q from h)⟩
  | some (.ex n), h => exact h
theorem WPO.mono {Xw : Nat → Hp → Prop} {F H : Hp} {m : M (Option Int)} {Q Q' : Option Int → Hp → Prop} (h : WPO Xw F H m Q) (k : ∀ v H', Q v H' → Q' v H') : WPO Xw F H m Q' := by
  match m, h with
  | none, h => exact h
  | some (.ok d), h => exact fun H2 F2 e2 => k _ _ (h H2 F2 e2)
  | some (.ex n), h => exact h
def cutD (ds : List D) (lo hi : Option Int) : List D := (ds.drop (sIx ds.length 0 lo)).take (sIx ds.length ds.length hi - sIx ds.length 0 lo)
def slM : D → Option Int → Option Int → M D
  | .tup ds, lo, hi => M.ret (.tup (cutD ds lo hi))
  | .lst ds, lo, hi => M.ret (.lst (cutD ds lo hi))
  | .str x, lo, hi => M.ret (.str (Txt.slice x lo hi))
  | _, _, _ => M.stuck
def dSl (a : DE) (lo hi : DO) : DE := fun ρ => a ρ >>= fun d => lo ρ >>= fun l => hi ρ >>= fun h => slM d l h
theorem cutD_len (ds : List D) (lo hi : Option Int) : (cutD ds lo hi).length ≤ ds.length := by
  unfold cutD
  rw [List.length_take, List.length_drop]
  omega
theorem DenL.cut {K : PySem.W.Frag} {F : Hp} {ds : List D} {vs : List V} (h : DenL K F ds vs) (lo hi : Option Int) : DenL K F (cutD ds lo hi) (cutV vs lo hi) := by
  unfold cutD cutV
  rw [h.len]
  exact (h.drop _).take _
theorem pd_sl {δo : DE} {κl κh : DO} (he : PD X Xw e δo) (hl : PDO X Xw lo κl) (hh : PDO X Xw hi κh) : PD X Xw (.Subscript e (.Slice lo hi none p2) pos) (dSl δo κl κh) :=
  PE.weak (pe_slice (sl_tupW.or (sl_tup.or (sl_list.or sl_str))) he hl hh) fun σ H Q ⟨F, ρ, s, w⟩ => by
    refine ⟨F, ρ, s, WP.mono (WP.bind w) fun v H1 ⟨F1, d, e1, q1, w1⟩ => ?_⟩
    refine ⟨F1, ρ, s.ext e1, WPO.mono (WP.bindO w1) fun l H2 ⟨F2, e2, w2⟩ => ?_⟩
    refine ⟨F2, ρ, (s.ext e1).ext e2, WPO.mono (WP.bindO w2) fun h H3 ⟨F3, e3, w3⟩ => ?_⟩
    have q3 := Den.mono (e2.ff.trans e3.ff) q1
    have fh := e3.fh
    cases d with
    | tup ds =>
      obtain ⟨a, vs, rfl, h2, h3, h4⟩ := q3
      by_cases hw : sIx vs.length 0 l = 0 ∧ sIx vs.length vs.length h = vs.length
      · refine .inl ⟨a, vs, rfl, SqT.of (fh _ _ h2), hw, ?_⟩
        have hc : cutD ds l h = ds := by
          unfold cutD
          rw [h3.len, hw.1, hw.2, Nat.sub_zero, List.drop_zero, ← h3.len, List.take_length]
        have w3 : WP X.K Xw F3 H3 (M.ret (.tup (cutD ds l h))) Q := w3
        rw [hc] at w3
        exact WP.now w3 fh ⟨a, vs, rfl, h2, h3, h4⟩
      · exact .inr (.inl ⟨a, vs, rfl, SqT.of (fh _ _ h2), hw, fun p hp => WP.fin w3 (Ext.lay fh hp) ⟨p, _, rfl, upd_same, DenL.mono (Ext.lay fh hp).ff (h3.cut l h), Nat.le_trans (cutD_len _ _ _) h4⟩⟩)
    | lst ds =>
      obtain ⟨a, vs, rfl, h2, h3, h4⟩ := q3
      exact .inr (.inr (.inl ⟨a, vs, rfl, SqL.of (fh _ _ h2), fun p hp => WP.fin w3 (Ext.lay fh hp) ⟨p, _, rfl, upd_same, DenL.mono (Ext.lay fh hp).ff (h3.cut l h), Nat.le_trans (cutD_len _ _ _) h4⟩⟩))
    | str x => exact .inr (.inr (.inr ⟨x, q3.1, q3.2, WP.now w3 fh ⟨rfl, Nat.le_trans (Txt.slice_le x _ _) q3.2⟩⟩))
    | _ => exact w3.elim
end
end L3


set_option Elab.async false
set_option linter.all false
set_option maxRecDepth 100000
namespace L3
open PySem PySem.Spec L2 SeqAt HT
open PyProof.Rows hiding St

section
variable {prog : Program} {w : World} {A : Around} {E : Value → Shared → Prop} {s : Shared}
end
section
variable {X : Cx} {Xw : Nat → Hp → Prop} {a b e : Expr} {δ δa δb : DE} {pos p p2 : Pos}
end
end L3


set_option Elab.async false
set_option linter.all false
set_option maxRecDepth 100000
namespace L3
open PySem PySem.Spec L2 SeqAt HT
open PyProof.Rows hiding St

def Itz (x : Str) : It := ⟨fun i _ => i < x.cps.size, fun i H v H' => H' = H ∧ ∃ c, x.cps[i]? = some c ∧ v = .str ⟨#[c]⟩, fun i _ => x.cps.size ≤ i⟩
theorem turn_strA {P : Program} {w : World} {K : PySem.W.Frag} {tg : Expr} (it : Addr) (x : Str) (t : Tok) : Turn P w K tg (Itz x) [it] it (fun i h => i ≤ x.cps.size ∧ h.IsStrIter it "str_ascii_iterator" x t i) where
  mem := by simp
  obj := fun i h st b hb => by
    have e : b = it := by simpa using hb
    subst e
    obtain ⟨_, o, e, c, d⟩ := st
    exact ⟨o, e, fun v z => by rw [d] at z; cases z⟩
  keep := fun i h h' st k => ⟨st.1, let ⟨o, e, r⟩ := st.2; ⟨o, k it (by simp) o e, r⟩⟩
  item := by
    intro X hP hw hK hc i pins s σ H E I hf st hg
    subst hP hw hK
    obtain ⟨f0, f1, f2, f3, f4, f5⟩ := hf it (by simp)
    have hi : i < x.cps.size := hg
    refine (Walks.strAscii (prog := X.prog) (w := X.w) (I.ok.hd hc) it x t).item i s _ _ hi st.2 fun v h' tk hv st' kk => ?_
    obtain ⟨c, u, hcx, rfl⟩ := hv
    have I1 : Inv X pins σ H { s with heap := h', toks := tk } := I.turned (fun b o hb e => kk b o (by simpa using hb) e) f0 f1 f3 f4 f5
    obtain ⟨o, e, cc, dd⟩ := id st'
    exact ⟨_, rfl, go_of (s := { s with heap := h', toks := tk }) e cc dd (by decide) ⟨.str ⟨#[c]⟩, H, I1, ⟨u, rfl⟩, ⟨rfl, c, hcx, rfl⟩, ⟨hi, st'⟩, fun b hb => (hf b hb).1⟩⟩
  done := by
    intro X hP hw hK hc i pins s σ H E I hf st hg
    subst hP hw hK
    obtain ⟨f0, f1, f2, f3, f4, f5⟩ := hf it (by simp)
    have hi : i = x.cps.size := Nat.le_antisymm st.1 hg
    subst hi
    exact (Walks.strAscii (prog := X.prog) (w := X.w) (I.ok.hd hc) it x t).done s _ _ st.2 fun h' tk kk => ⟨rfl, I.turned (fun b o hb e => kk b o (by simpa using hb) e) f0 f1 f3 f4 f5⟩
  self := fun _ _ _ _ _ st h => wpAny_pyIter_striter_ascii st.2 h
theorem turn_strW {P : Program} {w : World} {K : PySem.W.Frag} {tg : Expr} (it : Addr) (x : Str) (t : Tok) : Turn P w K tg (Itz x) [it] it (fun i h => i ≤ x.cps.size ∧ h.IsStrIter it "str_iterator" x t i) where
  mem := by simp
  obj := fun i h st b hb => by
    have e : b = it := by simpa using hb
    subst e
    obtain ⟨_, o, e, c, d⟩ := st
    exact ⟨o, e, fun v z => by rw [d] at z; cases z⟩
  keep := fun i h h' st k => ⟨st.1, let ⟨o, e, r⟩ := st.2; ⟨o, k it (by simp) o e, r⟩⟩
  item := by
    intro X hP hw hK hc i pins s σ H E I hf st hg
    subst hP hw hK
    obtain ⟨f0, f1, f2, f3, f4, f5⟩ := hf it (by simp)
    have hi : i < x.cps.size := hg
    refine (Walks.strWide (prog := X.prog) (w := X.w) (I.ok.hd hc) it x t).item i s _ _ hi st.2 fun v h' tk hv st' kk => ?_
    obtain ⟨c, u, hcx, rfl⟩ := hv
    have I1 : Inv X pins σ H { s with heap := h', toks := tk } := I.turned (fun b o hb e => kk b o (by simpa using hb) e) f0 f1 f3 f4 f5
    obtain ⟨o, e, cc, dd⟩ := id st'
    exact ⟨_, rfl, go_of (s := { s with heap := h', toks := tk }) e cc dd (by decide) ⟨.str ⟨#[c]⟩, H, I1, ⟨u, rfl⟩, ⟨rfl, c, hcx, rfl⟩, ⟨hi, st'⟩, fun b hb => (hf b hb).1⟩⟩
  done := by
    intro X hP hw hK hc i pins s σ H E I hf st hg
    subst hP hw hK
    obtain ⟨f0, f1, f2, f3, f4, f5⟩ := hf it (by simp)
    have hi : i = x.cps.size := Nat.le_antisymm st.1 hg
    subst hi
    exact (Walks.strWide (prog := X.prog) (w := X.w) (I.ok.hd hc) it x t).done s _ _ st.2 fun h' tk kk => ⟨rfl, I.turned (fun b o hb e => kk b o (by simpa using hb) e) f0 f1 f3 f4 f5⟩
  self := fun _ _ _ _ _ st h => wpAny_pyIter_striter_wide st.2 h
section
variable {X : Cx} {Xw : Nat → Hp → Prop} {tg a b e l o : Expr} {δ δa δb δo : DE} {δs : DA} {pos p p2 apos cpos : Pos}
def iStr (tl : TE) : TI := fun σ H R => tl σ H fun x H1 => ∃ z, x = .str z ∧ R (Itz z) H1
theorem pi_str {tl : TE} (hl : PE X l tl) : PI X tg l (iStr tl) := by
  intro pins s σ H R I h
  refine thn (hl pins s σ H _ I h) fun v s1 ⟨x, H1, I1, r1, q1⟩ => ?_
  obtain ⟨z, e, q⟩ := q1
  subst e
  obtain ⟨t, rfl⟩ := r1
  have fp : ∀ b ∈ [s1.heap.objs.size], FpOk X pins H1 b := fun b hb => by
    have e : b = s1.heap.objs.size := by simpa using hb
    subst e
    exact I1.fpOk (Nat.le_refl _) (I1.hok.fresh (Nat.le_refl _))
  cases ha : z.cps.all (· < 128)
  · exact wpAny_pyIter_wide ha ⟨s1.heap.objs.size, [s1.heap.objs.size], _, _, H1, rfl, I1.kept (t' := s1.toks) fun b o e => Heap.get?_push_of_some _ e, turn_strW _ z t, ⟨Nat.zero_le _, _, Heap.get?_push_size _ rfl, rfl, rfl⟩, fp, q⟩
  · exact wpAny_pyIter_ascii ha ⟨s1.heap.objs.size, [s1.heap.objs.size], _, _, H1, rfl, I1.kept (t' := s1.toks) fun b o e => Heap.get?_push_of_some _ e, turn_strA _ z t, ⟨Nat.zero_le _, _, Heap.get?_push_size _ rfl, rfl, rfl⟩, fp, q⟩
def signs (x : Str) : List D := x.cps.toList.map fun c => D.str ⟨#[c]⟩
def sgnM : D → M (List D)
  | .str x => M.ret (signs x)
  | _ => M.stuck
theorem itd_str {K : PySem.W.Frag} {F : Hp} (x : Str) : ItD K F (Itz x) (signs x) := fun F' H' i s1 s2 => by
  refine ⟨fun d e => ?_, fun hl => show x.cps.size ≤ i by simpa [signs] using hl⟩
  unfold signs at e
  rw [List.getElem?_map] at e
  cases q : x.cps.toList[i]? with
  | none => rw [q] at e; cases e
  | some c =>
    rw [q] at e
    cases e
    have hi : i < x.cps.size := by
      have := (List.getElem?_eq_some_iff.mp q).1
      simpa using this
    refine ⟨hi, fun v H'' y => ?_⟩
    obtain ⟨e2, c', hc', rfl⟩ := y
    subst e2
    have : c' = c := by
      have q' : x.cps[i]? = some c := by simpa using q
      rw [q'] at hc'
      exact (Option.some.inj hc').symm
    subst this
    exact ⟨F', Ext.refl s2, rfl, by show 1 ≤ lim; decide⟩
theorem pdi_str (h : PD X Xw l δ) : PDI X Xw tg l (fun ρ => δ ρ >>= sgnM) := PI.weak (pi_str h) fun σ H R ⟨F, ρ, s, w⟩ => by
  refine ⟨F, ρ, s, WP.mono (WPI.bind w) fun v H1 ⟨F1, d, e1, q1, w1⟩ => ?_⟩
  cases d with
  | str z => exact ⟨z, q1.1, w1 _ _ _ (Ext.refl e1.fh) (itd_str z)⟩
  | _ => exact w1.elim
end
end L3


set_option Elab.async false
set_option linter.all false
set_option maxRecDepth 100000
namespace L3
open PySem PySem.Spec L2 SeqAt HT
open PyProof.Rows hiding St
open PySem.W (Frag Looks InstAt findIn mroIn)
open PySem.Builtin PySem.Builtin.ObjectAttr PySem.Builtin.Getset_descriptor

section
variable {prog : Program} {w : World} {A : Around} {E : Value → Shared → Prop} {h : Heap} {g : Array GenState} {d : Drawn} {t : Nat} {os : OsState} {x D : Addr} {ox : Obj} {K : Frag}
structure ExcC (K : Frag) (D : Addr) : Prop where
  ga : findIn K (.ref D) "__getattribute__" = some (some (.builtin "BaseException.__getattribute__"))
  gt : findIn K (.ref D) "__getattr__" = some none
  ca : findIn K (.ref D) "__class__" = some (some (.builtin "object.__class__"))
  mo : mroIn K D (.type "object") = some true
  mb : mroIn K D (.type "BaseException") = some true
  cl : (PySem.W.clsIn K D).isSome = true
end
section
variable {X : Cx} {Xw : Nat → Hp → Prop} {e e2 : Expr} {δs : DA} {pos p : Pos}
end
end L3


set_option Elab.async false
set_option linter.all false
set_option maxRecDepth 100000
namespace L3
open PySem PySem.Spec L2 SeqAt HT
open PyProof.Rows hiding St
open PySem.W (Frag Looks findIn mroIn)

section
variable {X : Cx} {pins pn : List (Addr × Obj)} {σ : St} {H : Hp} {s : Shared} {E : Value → Shared → Prop} {ea : Addr}
end
section
variable {P : Program} {w : World} {K : PySem.W.Frag} {mg : Str → Option Value} {base : Heap} {N : List Str} {qual : Str} {scope : Scope} {f : Addr} {cd : Value} {A : Around} {outer : List Env} {s₀ : Shared} {H₀ : Hp} {E : XK} {cv : Nat → Value}
end
end L3


set_option Elab.async false
set_option linter.all false
set_option maxRecDepth 100000
namespace L3
open PySem PySem.Spec L2 SeqAt HT
open PyProof.Rows hiding St

structure RoomH (k : Nat) (A : Around) : Prop where
  dp : A.depth + 3 * k + 5 < recursionLimit
  un : A.units + 16 * k + 200 < cLine
structure FnOkH (P : Program) (w : World) (K : PySem.W.Frag) (mg : Str → Option Value) (base : Heap) (k : Nat) (f : Addr) (fd : FuncData) (ps : List Str) (sp : Sp) : Prop where
  len : ∀ vs H Q E, sp vs H Q E → vs.length = ps.length
  run : ∀ (A : Around) (outer : List Env) (s : Shared) (H : Hp) (args : Args) (us : List Value) (vs : List V) (Q : VK) (E : XK), RoomH k A → Env0 P w K mg base A outer s H → BindsTo s fd args (ps.zip us) → Vals vs us → sp vs H Q E →
    codeAny (model P w) A (.call (.ref f) args) (CR CX0 outer P w H s Q E) s
section
variable {P : Program} {w : World} {K : PySem.W.Frag} {mg : Str → Option Value} {base : Heap} {cv : Nat → Value}
end
section
variable {X : Cx} {Xw : Nat → Hp → Prop} {cv : Nat → Value} {k m : Nat} {f : Addr} {fd : FuncData} {ps : List Str} {g : List D → M D} {x : Str} {p pos : Pos} {e : Expr} {es : List Expr} {δs : DA}
end
end L3


set_option Elab.async false
set_option linter.all false
set_option maxRecDepth 100000
namespace L3
open PySem PySem.Spec L2 SeqAt HT
open PyProof.Rows hiding St

def chkComp (N : List Str) (osc scope : Scope) (tn : List Str) : Bool :=
  decide (scope.kind = .function) && scope.names.all (fun y => decide (y.2 ≠ .cell)) && scope.names.all (fun y => decide (y.2 = .local → scope.names.lookup y.1 = some .local)) &&
  scope.names.all (fun y => decide (y.2 = .free → (osc.names.lookup y.1 = some .cell ∨ osc.names.lookup y.1 = some .free))) &&
  ((hideN tn N).zip N).all (fun p => decide (scope.names.lookup p.1 = none ∨ (p.1 = p.2 ∧ scope.names.lookup p.1 = some .free)))
theorem compSc_of {X : Cx} {N : List Str} {osc scope : Scope} {tn : List Str} (hN : X.N = N) (ho : X.env.scope = osc) (h : chkComp N osc scope tn = true) : CompSc X scope tn := by
  unfold chkComp at h
  simp only [Bool.and_eq_true, List.all_eq_true, decide_eq_true_eq] at h
  obtain ⟨⟨⟨⟨h1, h2⟩, h3⟩, h4⟩, h5⟩ := h
  refine ⟨h1, h2, h3, fun y hy hf => ?_, ?_⟩
  · have := h4 y hy hf
    rw [← ho] at this
    exact this
  · rw [hN]
    exact h5
theorem tg_name {X : Cx} {x : Str} {px : Pos} {σ : St} (hN : X.N.Nodup) (h0 : X.N[0]? = some x) (hloc : X.env.scope.names.lookup x = some .local) : TgOk X (.Name x px) 0 σ := fun pins s σ' F H d ts v u I fh hd rv q e => by
  have e : M.ret [d] = M.ret ts := e
  have e := ret_inj e
  subst e
  refine wpAny_assign_Name (store_ok I hN h0 (.inl hloc) rv (fun s' I' => ⟨[v], ?_, .cons q .nil⟩) (.inr hloc))
  have hl : 0 < σ'.length := by rw [I.len]; exact (List.getElem?_eq_some_iff.mp h0).1
  have : σ'.set 0 (some v) = [v].map some ++ σ := by
    cases σ' with
    | nil => simp at hl
    | cons a r =>
      have hd : r = σ := by simpa using hd
      subst hd
      rfl
  rw [← this]
  exact I'
theorem passF {P : Program} {w : World} {cv : Nat → Value} {X : Cx} : Passes (CX1 P w cv) X (EX cv fun _ _ => False) := fun _ _ _ _ _ _ _ ⟨_, _, _, _, _, _, _, _, _, _, _, _, _, _, z⟩ => z.elim
def DefAt (K : PySem.W.Frag) (mg : Str → Option Value) (x : Str) (st : Stmt) (f : Addr) : Prop := mg x = some (.ref f) ∧ ∃ fd, Fun K x x st f fd
def CallOk (P : Program) (w : World) (K : PySem.W.Frag) (mg : Str → Option Value) (base : Heap) (cv : Nat → Value) (k : Nat) (x : Str) (m : Nat) (g : List D → M D) : Prop :=
  ∃ f fd ps, mg x = some (.ref f) ∧ PySem.W.keepIn K (.ref f) = true ∧ Binds K fd ps [] ∧ FnOk P w K mg base (CX1 P w cv) k f fd ps (spD K cv m g)
section
variable {X : Cx} {Xw : Nat → Hp → Prop} {cv : Nat → Value} {k m : Nat} {g : List D → M D} {x : Str} {p pos : Pos} {e : Expr} {es : List Expr} {δs : DA}
def callF (m : Nat) (g : List D → M D) (δs : DA) : DE := fun ρ => δs ρ >>= fun ds => if ds.length = m then g ds else M.stuck
theorem pd_c (F : CallOk X.prog X.w X.K X.mg X.base cv k x m g) (hr : Room k X.A) (hg : Gl X x) (hx : Passes (CX1 X.prog X.w cv) X (EX cv Xw))
    (ha : PDA X Xw (e :: es) δs) (hl : (e :: es).length = m) (hdb : (x == ("__debug__" : Str)) = false := by decide) (he : starEach (e :: es) X.env = (false, eval e X.env) :: starEach es X.env := by rfl) (hpl : (backTo pos (starEach es X.env)).any (·.1) = false := by rfl) :
    PD X Xw (.Call (.Name x p) (e :: es) [] pos) (callF m g δs) := by
  obtain ⟨f, fd, ps, h1, h2, h3, h4⟩ := F
  exact pd_call h4 hr hg h1 h2 h3 hx ha hl hdb he hpl
end
theorem callOk_of {P : Program} {w : World} {K : PySem.W.Frag} {mg : Str → Option Value} {base : Heap} {cv : Nat → Value} {k : Nat} {x : Str} {st : Stmt} {f : Addr} {N ps : List Str} {τ : DS} (T : DefAt K mg x st f) (S : FnScope N ps (defScope st))
    (hbi : ∀ (kV doc pm : Value) (an : Option Addr) (cdv ct : Value) (us : List Value), us.length = ps.length → bindArgs (PySem.W.fnOf x x (defArgs st) (defBody st) (defScope st) .none kV doc pm an cdv ct) ⟨us, []⟩ = pure (ps.zip us))
    (hbody : ∀ (cdv : Value) (A : Around) (outer : List Env) (s : Shared) (H : Hp) (E : XK), Room k (A.deeper (envOfC x (defScope st) s.heap.objs.size f cdv)) →
      PSDs (cxOf (CX1 P w cv) P w K mg base N x (defScope st) f cdv A outer s H E) (fun n H' => E (cv n) none H') (defBody st) τ) : CallOk P w K mg base cv (k + 1) x ps.length (runD N.length τ) := by
  obtain ⟨h1, fd, Fn⟩ := T
  exact ⟨f, fd, ps, h1, Fn.kp, Fn.binds hbi, fn_D Fn S hbody⟩
end L3


set_option Elab.async false
set_option linter.all false
set_option maxRecDepth 100000
namespace L3
open PySem PySem.Spec L2 SeqAt HT
open PyProof.Rows hiding St
section
variable {X : Cx} {Xw : Nat → Hp → Prop} {a e : Expr} {δ : DE} {pos : Pos}
def negM : D → M D
  | .int i => M.ret (.int (-i))
  | _ => M.stuck
theorem pd_neg (ha : PD X Xw a δ) : PD X Xw (.UnaryOp .USub a pos) (d1 negM δ) := PE.weak (pe_un un_neg ha) fun σ H Q ⟨F, ρ, s, w⟩ => by
  refine ⟨F, ρ, s, WP.mono (WP.bind w) fun v H1 ⟨F1, d, e1, q, w1⟩ => ?_⟩
  cases d with
  | int i =>
    have q : v = .int i := q
    subst q
    exact ⟨i, rfl, WP.now w1 e1.fh rfl⟩
  | _ => exact w1.elim
def sAsg (put : D → Rho → Option Rho) (δ : DE) : DS := fun ρ => δ ρ >>= fun d => match put d ρ with
  | some ρ' => M.ret (.nx ρ')
  | none => M.stuck
theorem psd_asg {tg : Expr} {g : TG} {put : D → Rho → Option Rho} (he : PD X Xw e δ) (hg : PG X tg g) (hput : PutOk X.K g put) (hs : swapsWithSole [tg] e pos.line X.env = pure false := by rfl) (hw : swappedStores [tg] e X.env = pure none := by rfl)
    (h1 : (assignEach [tg] X.env).map (·.2) = [assign tg X.env] := by rfl) : PSD X Xw (.Assign [tg] e pos) (sAsg put δ) := fun F₀ H₀ => PS.weak (ps_asg he hg hs hw h1) fun D σ H ⟨F, ρ, s, w⟩ => by
  refine ⟨F, ρ, s.st, ?_⟩
  unfold sAsg at w
  match δ ρ, w with
  | none, w => exact w
  | some (.ex n), w => exact fun F' H' e' => w F' H' (s.ext.trans e')
  | some (.ok d), w =>
    intro v H' F' e' q
    have w : WPS X.K Xw F₀ H₀ (match put d ρ with | some ρ' => M.ret (.nx ρ') | none => M.stuck) D := w
    match hp : put d ρ, w with
    | none, w => exact w.elim
    | some ρ', w => exact hput F₀ H₀ F' H' σ ρ ρ' d v _ (s.ext' e') q hp fun σ' s' => w σ' F' H' s'
end
end L3


set_option Elab.async false
set_option linter.all false
set_option maxRecDepth 100000
namespace L3
open PySem PySem.Spec L2 SeqAt HT
open PyProof.Rows hiding St
section
variable {X : Cx} {Xw : Nat → Hp → Prop} {pos : Pos}
theorem pd_strG {x z : Str} (hg : Gl X x) (h : ∃ t, X.mg x = some (.str z t)) (hz : z.length ≤ lim) (hdb : (x == ("__debug__" : Str)) = false := by decide) : PD X Xw (.Name x pos) (dC (.str z)) := by
  obtain ⟨t, h⟩ := h
  exact pd_glob (v := .str z) hg h ⟨t, rfl⟩ (fun _ => ⟨rfl, hz⟩) hdb
theorem pd_intG {x : Str} {i : Int} (hg : Gl X x) (h : ∃ t, X.mg x = some (.int i t)) (hdb : (x == ("__debug__" : Str)) = false := by decide) : PD X Xw (.Name x pos) (dC (.int i)) := by
  obtain ⟨t, h⟩ := h
  exact pd_glob (v := .int i) hg h ⟨t, rfl⟩ (fun _ => rfl) hdb
end
structure Box (p : Prop) : Prop where
  out : p
section
variable {X : Cx} {Xw : Nat → Hp → Prop} {a : Expr} {δa : DE} {pos : Pos}
theorem bx_seq {st : Stmt} {rest : List Stmt} {τ τ' : DS} (h1 : Box (PSD X Xw st τ)) (h2 : Box (PSDs X Xw rest τ')) : Box (PSDs X Xw (st :: rest) (sSeq τ τ')) := ⟨psd_cons h1.out h2.out⟩
theorem bx_one {st : Stmt} {τ : DS} (h1 : Box (PSD X Xw st τ)) : Box (PSDs X Xw [st] τ) := ⟨psd_one h1.out⟩
end
end L3


set_option Elab.async false
set_option linter.all false
set_option maxRecDepth 100000
namespace L3
open PySem PySem.Spec L2 SeqAt HT
open PyProof.Rows hiding St
theorem walkD {l : PySem.W.OpenLaw} {n k : Nat} {q : Program} {loose : List Str} {XP : (Str → Option Value) → Heap → Prop} {YP : World → Heap → Prop} {d : DefRec} {K : Params → PySem.W.Frag} {x : Str} {g : List D → M D}
    (hn : l.most = some n) (hn2 : n ≤ lim) (hdf : d.params.defaults = []) (hr : Room k callerA)
    (hY : ∀ (w : World) (h : Heap), YP w h → (K w.params).In h) (hg : ∀ ns : List Int, ns.length ≤ n → g [.scr ns] = M.ret (.bl true))
    (F : ∀ (w : World) (mg : Str → Option Value) (fa : Addr) (h : Heap), (K w.params).In h → h.Ns mainGlobals mg → mg d.name = some (.ref fa) →
      ∃ (cv : Nat → Value) (fd : FuncData), (∀ (s : Shared) (u : Value), BindsTo s fd ⟨[u], []⟩ [(x, u)]) ∧
        ∀ base : Heap, (K w.params).In base → base.Ns mainGlobals mg → FnOk l.prog w (K w.params) mg base (CX1 l.prog w cv) k fa fd [x] (spD (K w.params) cv 1 g)) :
    PySem.W.WalkO q loose XP YP l.row.toRowW d [] (fun f vs => PySem.call f vs) := by
  refine Att.attach_call hn hdf fun w s₀ s₁ mg mb fa o pm cd doc a vs ns G Y ho hd hcd hmg hobj hints hlen hgs => ?_
  have KX := hY w _ Y
  obtain ⟨cv, fd, hb, hF⟩ := F w mg fa _ KX G.T.g hmg
  refine law_call KX G.T.g G.T.b G.T.builtins G.T.nolimit hgs hobj hints (Nat.le_trans hlen (Nat.le_trans hn2 (Nat.le_of_lt lim_lt))) hr hF hb (fun H hO hS => ?_) fun H e s' z => ?_
  · refine ⟨H, [.scr ns], fun _ _ e => e, ⟨_, _, rfl, ⟨a, rfl, hS, Nat.le_trans hlen hn2⟩, rfl⟩, rfl, ?_⟩
    rw [hg ns hlen]
    exact fun v H' F' e q => q
  · obtain ⟨_, _, _, _, _, _, _, _, _, _, _, _, _, _, y⟩ := z
end L3


set_option Elab.async false
set_option linter.all false
set_option maxRecDepth 100000
namespace L3
open PySem PySem.Spec L2 SeqAt HT
open PyProof.Rows hiding St

section
variable {prog : Program} {w : World} {A : Around} {E : Value → Shared → Prop} {s : Shared}
end
section
variable {X : Cx} {Xw : Nat → Hp → Prop} {e est : Expr} {te ts : TE} {δ δs : DE} {pos p2 : Pos}
def RvR (X : Cx) (r : V → Hp → VK → Prop) : Prop :=
  ∀ (pins : List (Addr × Obj)) (s : Shared) (σ : St) (H : Hp) (x : V) (v : Value) (u : Tok) (sl : Addr) (Q : VK), Inv X pins σ H s → RelV x v → s.heap.IsSliceOf sl .none .none (.int (-1) u) → r x H Q →
    ∃ T id, typeLookup (.type T) "__getitem__" = pure (some (.builtin id)) ∧ s.TypeIs v T ∧ wpAny (model X.prog X.w) X.A (getItem v (.ref sl)) (EP X pins σ Q) X.xe s
theorem pe_rev {r : V → Hp → VK → Prop} (hr : RvR X r) (he : PE X e te) (hs : PE X est ts) : PE X (.Subscript e (.Slice none none (some est) p2) pos) (fun σ H Q => te σ H fun x H1 => ts σ H1 fun y H2 => y = .int (-1) ∧ r x H2 Q) := by
  intro pins s σ H Q I h
  refine Subscript_ (thn (he pins s σ H _ I h) fun v s1 ⟨x, H1, I1, r1, q1⟩ => ?_)
  refine wpAny_Slice ?_
  rw [evalPart_none]
  refine wpAny_pure (wpAny_pure ?_)
  rw [evalPart_some]
  refine thn (hs pins s1 σ H1 _ I1 q1) fun vs s3 ⟨y, H3, I3, ry, q3⟩ => ?_
  obtain ⟨rfl, q3⟩ := q3
  obtain ⟨u, rfl⟩ := ry
  have I4 : Inv X pins σ H3 { s3 with heap := s3.heap.push { cls := .type "slice", data := .fields #[.none, .none, .int (-1) u] } } := I3.kept (t' := s3.toks) fun b ob q => Heap.get?_push_of_some _ q
  obtain ⟨T, id, hT, ht, hg⟩ := hr pins { s3 with heap := s3.heap.push { cls := .type "slice", data := .fields #[.none, .none, .int (-1) u] } } σ H3 x v u s3.heap.objs.size Q I4 r1 (Heap.IsSliceOf.new ..) q3
  show wpAny (model X.prog X.w) X.A (subscriptTail e (.Slice none none (some est) p2) v (.ref s3.heap.objs.size)) (EP X pins σ Q) X.xe { s3 with heap := s3.heap.push { cls := .type "slice", data := .fields #[.none, .none, .int (-1) u] } }
  exact tail_any (ops := [v, .ref s3.heap.objs.size]) ht hT hg (by with_unfolding_all rfl)
variable {o : Expr} {δo : DE} {δl : DA} {apos cpos : Pos}
end
end L3


set_option Elab.async false
set_option linter.all false
set_option maxRecDepth 100000
namespace L3
open PySem PySem.Spec L2 SeqAt HT
open PyProof.Rows hiding St
namespace RV
end RV
section
variable {prog : Program} {w : World} {A : Around} {E : Value → Shared → Prop} {s : Shared}
end
section
variable {X : Cx} {Xw : Nat → Hp → Prop} {tg e : Expr} {es : List Expr} {δ δi : DE} {δs : DA} {pos p : Pos}
end
end L3


set_option Elab.async false
set_option linter.all false
set_option maxRecDepth 100000
namespace L3
open PySem PySem.Spec L2 SeqAt HT
open PyProof.Rows hiding St

def keyK : D → Option Key
  | .int i => some (.inl i)
  | .str x => some (.inr x)
  | _ => none
def keyL : List D → Option (List Key)
  | [] => some []
  | d :: ds => match keyK d, keyL ds with
    | some k, some ks => some (k :: ks)
    | _, _ => none
def keyT : D → Option (List Key)
  | .tup ds => keyL ds
  | _ => none
theorem keyK_den {K : PySem.W.Frag} {F : Hp} {d : D} {v : V} {k : Key} (e : keyK d = some k) (h : Den K F d v) : v = kV k := by
  cases d <;> first | cases e | skip
  · exact h
  · exact h.1
theorem keyL_den {K : PySem.W.Frag} {F : Hp} : ∀ {ds : List D} {vs : List V} {ks : List Key}, keyL ds = some ks → DenL K F ds vs → vs = ks.map kV
  | [], _, _, e, h => by cases e; exact h
  | d :: ds, _, _, e, ⟨v, r, h1, h2, h3⟩ => by
    unfold keyL at e
    split at e
    · rename_i k ks e1 e2
      cases e
      subst h1
      rw [List.map_cons, keyK_den e1 h2, keyL_den e2 h3]
    · cases e
section
variable {κ : Type} [DecidableEq κ]
def valD : List κ → List D → κ → Option D
  | k' :: ks, d :: ds, k => if k' = k then some d else valD ks ds k
  | _, _, _ => none
def repD : List κ → List D → κ → D → List D
  | k' :: ks, d' :: ds, k, d => (if k' = k then d else d') :: repD ks ds k d
  | _, _, _, _ => []
theorem valD_den {K : PySem.W.Frag} {F : Hp} : ∀ {ks : List κ} {ds : List D} {vs : List V} (k : κ), DenL K F ds vs → ks.length = ds.length →
    (match valD ks ds k with | some d => ∃ v, valV (ks.zip vs) k = some v ∧ Den K F d v | none => valV (ks.zip vs) k = none)
  | [], [], _, _, _, _ => rfl
  | k' :: ks, d :: ds, _, k, ⟨v, r, h1, h2, h3⟩, hl => by
    subst h1
    unfold valD
    rw [List.zip_cons_cons]
    by_cases e : k' = k
    · rw [if_pos e, valV_pos (p := (k', v)) e]
      exact ⟨v, rfl, h2⟩
    · rw [if_neg e, valV_neg (p := (k', v)) e]
      exact valD_den k h3 (by simpa using hl)
  | [], _ :: _, _, _, _, hl => by simp at hl
  | _ :: _, [], _, _, _, hl => by simp at hl
theorem valD_isSome {K : PySem.W.Frag} {F : Hp} {ks : List κ} {ds : List D} {vs : List V} (k : κ) (h : DenL K F ds vs) (hl : ks.length = ds.length) : (valV (ks.zip vs) k).isSome = (valD ks ds k).isSome := by
  have := valD_den k h hl
  split at this
  · rename_i d e
    obtain ⟨v, e1, _⟩ := this
    rw [e1, e]; rfl
  · rename_i e
    rw [this, e]
    rfl
theorem repD_den {K : PySem.W.Frag} {F : Hp} {d : D} {v : V} (hd : Den K F d v) : ∀ {ks : List κ} {ds : List D} {vs : List V} (k : κ), DenL K F ds vs → ks.length = ds.length →
    ∃ ws, (ks.zip vs).map (fun kv => if kv.1 = k then (kv.1, v) else kv) = ks.zip ws ∧ DenL K F (repD ks ds k d) ws
  | [], [], _, _, h, _ => ⟨[], rfl, rfl⟩
  | k' :: ks, d' :: ds, _, k, ⟨v', r, h1, h2, h3⟩, hl => by
    subst h1
    obtain ⟨ws, e1, e2⟩ := repD_den hd k h3 (by simpa using hl)
    by_cases e : k' = k
    · refine ⟨v :: ws, ?_, ?_⟩
      · rw [List.zip_cons_cons, List.map_cons, e1, if_pos e]; rfl
      · unfold repD; rw [if_pos e]; exact .cons hd e2
    · refine ⟨v' :: ws, ?_, ?_⟩
      · rw [List.zip_cons_cons, List.map_cons, e1, if_neg e]; rfl
      · unfold repD; rw [if_neg e]; exact .cons h2 e2
  | [], _ :: _, _, _, _, hl => by simp at hl
  | _ :: _, [], _, _, _, hl => by simp at hl
theorem repD_len : ∀ (ks : List κ) (ds : List D) (k : κ) (d : D), ks.length = ds.length → (repD ks ds k d).length = ds.length
  | [], [], _, _, _ => rfl
  | _ :: ks, _ :: ds, k, d, h => by unfold repD; rw [List.length_cons, List.length_cons, repD_len ks ds k d (by simpa using h)]
  | [], _ :: _, _, _, h => by simp at h
  | _ :: _, [], _, _, h => by simp at h
def putKs (ks : List κ) (ds : List D) (k : κ) : List κ := if (valD ks ds k).isSome then ks else ks ++ [k]
def putDs (ks : List κ) (ds : List D) (k : κ) (d : D) : List D := if (valD ks ds k).isSome then repD ks ds k d else ds ++ [d]
theorem put_den {K : PySem.W.Frag} {F : Hp} {d : D} {v : V} (hd : Den K F d v) {ks : List κ} {ds : List D} {vs : List V} (k : κ) (h : DenL K F ds vs) (hl : ks.length = ds.length) :
    ∃ ws, putK (ks.zip vs) k v = (putKs ks ds k).zip ws ∧ DenL K F (putDs ks ds k d) ws ∧ (putKs ks ds k).length = (putDs ks ds k d).length := by
  have hs := valD_isSome (K := K) (F := F) k h hl
  unfold putK putKs putDs
  have ha : ((ks.zip vs).any fun kv => decide (kv.1 = k)) = (valV (ks.zip vs) k).isSome := valV_any ..
  rw [ha, hs]
  cases e : (valD ks ds k).isSome with
  | true =>
    rw [if_pos rfl, if_pos rfl, if_pos rfl]
    obtain ⟨ws, e1, e2⟩ := repD_den hd k h hl
    exact ⟨ws, e1, e2, by rw [repD_len ks ds k d hl]; exact hl⟩
  | false =>
    rw [if_neg Bool.false_ne_true, if_neg Bool.false_ne_true, if_neg Bool.false_ne_true]
    refine ⟨vs ++ [v], ?_, h.append (.cons hd .nil), by simp [hl]⟩
    rw [List.zip_append (by rw [hl]; exact h.len)]
    rfl
end
theorem zip_len {κ : Type} {K : PySem.W.Frag} {F : Hp} {ks : List κ} {ds : List D} {vs : List V} (h : DenL K F ds vs) (hl : ks.length = ds.length) : (ks.zip vs).length = ds.length := by
  rw [List.length_zip, hl, ← h.len]; omega
def slotD (ρ : Rho) (i : Nat) : Option D := match ρ[i]? with
  | some (some (.fz d)) => some d
  | some (some (.ow c)) => some c.d
  | _ => none
theorem slot_dct {K : PySem.W.Frag} {F H : Hp} {σ : St} {ρ : Rho} {i : Nat} {ks : List (List Key)} {ds : List D} (s : StE K F H σ ρ) (e : slotD ρ i = some (.dct ks ds)) :
    ∃ a vs, σ[i]? = some (some (.ref a)) ∧ Rd H a (.dT (ks.zip vs)) ∧ DenL K F ds vs ∧ ks.length = ds.length ∧ ds.length ≤ lim := by
  unfold slotD at e
  split at e
  · rename_i d e1
    cases e
    obtain ⟨v, h1, a, ob, vs, rfl, h2, h3, h4, h5⟩ := s.den i _ e1
    exact ⟨a, vs, h1, .inr ⟨ob, s.fh _ _ h2⟩, h3, h4, h5⟩
  · rename_i c e1
    cases c <;> cases e
    obtain ⟨v, h1, a, o, rfl, h2, _, vs, rfl, h3, h4, h5⟩ := s.den i _ e1
    exact ⟨a, vs, h1, .inl h2, h3, h4, h5⟩
  · cases e
theorem slot_dci {K : PySem.W.Frag} {F H : Hp} {σ : St} {ρ : Rho} {i : Nat} {ks : List Key} {ds : List D} (s : StE K F H σ ρ) (e : slotD ρ i = some (.dci ks ds)) :
    ∃ a vs, σ[i]? = some (some (.ref a)) ∧ Rd H a (.dK (ks.zip vs)) ∧ DenL K F ds vs ∧ ks.length = ds.length ∧ ds.length ≤ lim := by
  unfold slotD at e
  split at e
  · rename_i d e1
    cases e
    obtain ⟨v, h1, a, ob, vs, rfl, h2, h3, h4, h5⟩ := s.den i _ e1
    exact ⟨a, vs, h1, .inr ⟨ob, s.fh _ _ h2⟩, h3, h4, h5⟩
  · rename_i c e1
    cases c <;> cases e
    obtain ⟨v, h1, a, o, rfl, h2, _, vs, rfl, h3, h4, h5⟩ := s.den i _ e1
    exact ⟨a, vs, h1, .inl h2, h3, h4, h5⟩
  · cases e
def atD : D → D → Option (Option D)
  | .dct ks ds, k => (keyT k).map (valD ks ds)
  | .dci ks ds, k => (keyK k).map (valD ks ds)
  | _, _ => none
theorem atD_get {K : PySem.W.Frag} {F H : Hp} {σ : St} {ρ : Rho} {i : Nat} {d k : D} {y : V} {o : Option D} (s : StE K F H σ ρ) (hi : slotD ρ i = some d) (hk : Den K F k y) (e : atD d k = some o) :
    ∃ a ov, σ[i]? = some (some (.ref a)) ∧ DGet H a y ov ∧ ov.isSome = o.isSome ∧ ∀ d', o = some d' → ∃ v, ov = some v ∧ Den K F d' v := by
  unfold atD at e
  split at e
  · rename_i ks ds
    cases q : keyT k with
    | none => rw [q] at e; cases e
    | some kk =>
      rw [q] at e
      cases e
      obtain ⟨a, vs, h1, h2, h3, h4, h5⟩ := slot_dct s hi
      unfold keyT at q
      split at q
      · rename_i es
        obtain ⟨b, ws, rfl, k2, k3, _⟩ := hk
        have e1 := keyL_den q k3
        subst e1
        refine ⟨a, _, h1, .inr ⟨_, kk, b, h2, rfl, s.fh _ _ k2, rfl⟩, valD_isSome kk h3 h4, fun d' hd' => ?_⟩
        have := valD_den (K := K) (F := F) kk h3 h4
        rw [hd'] at this
        exact this
      · cases q
  · rename_i ks ds
    cases q : keyK k with
    | none => rw [q] at e; cases e
    | some kk =>
      rw [q] at e
      cases e
      obtain ⟨a, vs, h1, h2, h3, h4, h5⟩ := slot_dci s hi
      have e1 := keyK_den q hk
      subst e1
      refine ⟨a, _, h1, .inl ⟨_, kk, h2, rfl, rfl⟩, valD_isSome kk h3 h4, fun d' hd' => ?_⟩
      have := valD_den (K := K) (F := F) kk h3 h4
      rw [hd'] at this
      exact this
  · cases e
section
variable {X : Cx} {Xw : Nat → Hp → Prop} {a b : Expr} {δa δb : DE} {pos : Pos}
theorem pd_le (ha : PD X Xw a δa) (hb : PD X Xw b δb) : PD X Xw (.Compare a [.LtE] [b] pos) (d2 gLe δa δb) := pd_cmp op_le (opd_I fun _ _ _ => rfl) ha hb
end
section
variable {X : Cx} {Xw : Nat → Hp → Prop} {a e : Expr} {δ δk δv : DE} {pos p pos' pos2 apos cpos : Pos} {x : Str} {i : Nat}
def dInO (neg : Bool) (i : Nat) (δ : DE) : DE := fun ρ => δ ρ >>= fun k => match slotD ρ i with
  | some d => match atD d k with
    | some o => M.ret (.bl (if neg then !o.isSome else o.isSome))
    | none => M.stuck
  | none => M.stuck
theorem inO_of {neg : Bool} {σ : St} {H : Hp} {Q : VK} (h : tD X.K Xw (dInO neg i δ) σ H Q) : (fun σ H Q => tD X.K Xw δ σ H fun y H1 => tVar i σ H1 fun x H2 => ∃ a o, x = .ref a ∧ DGet H2 a y o ∧ Q (.bl (if neg then !o.isSome else o.isSome)) H2) σ H Q := by
  obtain ⟨F, ρ, s, w⟩ := h
  refine ⟨F, ρ, s, WP.mono (WP.bind w) fun y H1 ⟨F1, k, e1, q1, w1⟩ => ?_⟩
  have s1 := s.ext e1
  cases hi : slotD ρ i with
  | none => rw [hi] at w1; exact w1.elim
  | some d =>
    rw [hi] at w1
    have w1 : WP X.K Xw F1 H1 (match atD d k with | some o => M.ret (.bl (if neg then !o.isSome else o.isSome)) | none => M.stuck) Q := w1
    cases he : atD d k with
    | none => rw [he] at w1; exact w1.elim
    | some o =>
      rw [he] at w1
      obtain ⟨a, ov, h1, h2, h3, _⟩ := atD_get s1 hi q1 he
      refine ⟨.ref a, h1, a, ov, rfl, h2, ?_⟩
      rw [h3]
      exact WP.now w1 e1.fh rfl
theorem pd_inO (hu : X.A.units + 64 < cLine) (ha : PD X Xw a δ) (hv : PE X (.Name x p) (tVar i)) (hm : behindInMarks .In (.Name x p) = false := by rfl) : PD X Xw (.Compare a [.In] [.Name x p] pos) (dInO false i δ) :=
  PE.weak (pe_cmp (pc_din (by omega) ha hv) hm) fun σ H Q h => inO_of (neg := false) h
def sNewT (i : Nat) : DS := fun ρ => M.ret (.nx (ρ.set i (some (.ow (.dct [] [])))))
theorem psd_newT (hN : X.N.Nodup) (hi : X.N[i]? = some x) (hx : Loc X.env.scope x) (hf : X.fn x = true ∨ X.env.scope.names.lookup x = some .local := by first | exact .inl rfl | exact .inr rfl) :
    PSD X Xw (.Assign [.Name x pos'] (.Dict [] [] pos2) pos) (sNewT i) := fun F₀ H₀ => PS.weak (ps_asg pe_dnewT (pg_name hN hi hx hf) rfl) fun D σ H ⟨F, ρ, s, w⟩ => fun q hq =>
  w _ F _ (s.setNew (c₀ := .dct [] []) hq ⟨[], rfl, rfl, rfl, Nat.zero_le _⟩)
def putC : C → D → D → Option C
  | .dct ks ds, k, d => match keyT k with
    | some kk => if ds.length < lim then some (.dct (putKs ks ds kk) (putDs ks ds kk d)) else none
    | none => none
  | .dci ks ds, k, d => match keyK k with
    | some kk => if ds.length < lim then some (.dci (putKs ks ds kk) (putDs ks ds kk d)) else none
    | none => none
  | _, _, _ => none
def ownC (ρ : Rho) (i : Nat) : Option C := match ρ[i]? with
  | some (some (.ow c)) => some c
  | _ => none
theorem ownC_some {ρ : Rho} {i : Nat} {c : C} (h : ownC ρ i = some c) : ρ[i]? = some (some (.ow c)) := by
  unfold ownC at h
  split at h
  · rename_i c' e
    cases h
    exact e
  · cases h
def sPutO (i : Nat) (δk δv : DE) : DS := fun ρ => match ownC ρ i with
  | some c => δv ρ >>= fun v => δk ρ >>= fun k => match putC c k v with
    | some c' => M.ret (.nx (ρ.set i (some (.ow c'))))
    | none => M.stuck
  | none => M.stuck
theorem putDs_len {κ : Type} [DecidableEq κ] {ks : List κ} {ds : List D} {k : κ} {d : D} (hl : ks.length = ds.length) (h : ds.length < lim) : (putDs ks ds k d).length ≤ lim := by
  unfold putDs
  split
  · rw [repD_len ks ds k d hl]; omega
  · rw [List.length_append]; exact h
theorem putC_den {K : PySem.W.Frag} {F H : Hp} {c c' : C} {k d : D} {y v : V} {o : HO} {b : Addr} (hs : Same F H) (hb : H b = some o) (hc : DenC K F c o) (hk : Den K F k y) (hd : Den K F d v) (e : putC c k d = some c') : ∃ o', DPut H b y v (upd H b o') ∧ DenC K F c' o' := by
  have hlim := lim_lt
  unfold putC at e
  split at e
  · rename_i ks ds k d
    obtain ⟨vs, rfl, h3, h4, h5⟩ := hc
    split at e
    · rename_i kk q
      split at e
      · rename_i hlt
        cases e
        unfold keyT at q
        split at q
        · rename_i es
          obtain ⟨b2, ws, rfl, k2, k3, _⟩ := hk
          have e1 := keyL_den q k3
          subst e1
          obtain ⟨us, e2, e3, e4⟩ := put_den hd kk h3 h4
          refine ⟨_, DPut.t hb (hs _ _ k2) (by rw [zip_len h3 h4]; omega), us, ?_, e3, e4, putDs_len h4 hlt⟩
          rw [e2]
        · cases q
      · cases e
    · cases e
  · rename_i ks ds k d
    obtain ⟨vs, rfl, h3, h4, h5⟩ := hc
    split at e
    · rename_i kk q
      split at e
      · rename_i hlt
        cases e
        have e1 := keyK_den q hk
        subst e1
        obtain ⟨us, e2, e3, e4⟩ := put_den hd kk h3 h4
        refine ⟨_, DPut.k hb (by rw [zip_len h3 h4]; omega), us, ?_, e3, e4, putDs_len h4 hlt⟩
        rw [e2]
      · cases e
    · cases e
  · cases e
theorem psd_putO (hu : X.A.units + 64 < cLine) (hv : PE X (.Name x p) (tVar i)) (hk : PD X Xw a δk) (he : PD X Xw e δv) (hs : swapsWith e (some (.Subscript (.Name x p) a pos')) pos.line X.env = pure false := by rfl) :
    PSD X Xw (.Assign [.Subscript (.Name x p) a pos'] e pos) (sPutO i δk δv) := fun F₀ H₀ => PS.weak (ps_dput (by omega) hv hk he hs) fun D σ H ⟨F, ρ, s, w⟩ => by
  unfold sPutO at w
  cases ho : ownC ρ i with
  | none => rw [ho] at w; exact w.elim
  | some c =>
    rw [ho] at w
    have hi := ownC_some ho
    have w : WPS X.K Xw F₀ H₀ (δv ρ >>= fun v => δk ρ >>= fun k => match putC c k v with | some c' => M.ret (.nx (ρ.set i (some (.ow c')))) | none => M.stuck) D := w
    refine ⟨F, ρ, s.st, ?_⟩
    rcases (δv ρ).cs with q | ⟨n, q⟩ | ⟨dv, q⟩
    · rw [q] at w; exact w.elim
    · rw [q] at w ⊢; exact fun F' H' e' => w F' H' (s.ext.trans e')
    · rw [q] at w ⊢
      intro v H1 F1 e1 hq
      have s1 := s.ext' e1
      obtain ⟨u, h1, b, o, rfl, h2, h3, h4⟩ := s1.st.den i _ hi
      have w : WPS X.K Xw F₀ H₀ (δk ρ >>= fun k => match putC c k dv with | some c' => M.ret (.nx (ρ.set i (some (.ow c')))) | none => M.stuck) D := w
      refine ⟨.ref b, h1, F1, ρ, s1.st, ?_⟩
      rcases (δk ρ).cs with q2 | ⟨n, q2⟩ | ⟨dk, q2⟩
      · rw [q2] at w; exact w.elim
      · rw [q2] at w ⊢; exact fun F' H' e' => w F' H' (s1.ext.trans e')
      · rw [q2] at w ⊢
        intro y H2 F2 e2 hy
        have w : WPS X.K Xw F₀ H₀ (match putC c dk dv with | some c' => M.ret (.nx (ρ.set i (some (.ow c')))) | none => M.stuck) D := w
        cases hp : putC c dk dv with
        | none => rw [hp] at w; exact w.elim
        | some c' =>
          rw [hp] at w
          have s2 := s1.ext' e2
          obtain ⟨u2, k1, b2, o2, hb2, k2, k3, k4⟩ := s2.st.den i _ hi
          rw [h1] at k1
          cases k1
          cases hb2
          obtain ⟨o', g, hc⟩ := putC_den s2.st.fh k2 k4 hy (Den.mono e2.ff hq) hp
          exact ⟨b, _, rfl, g, w σ F2 _ (s2.chg hi h1 hc)⟩
end
end L3


set_option Elab.async false
set_option linter.all false
set_option maxRecDepth 100000
namespace L3
open PySem PySem.Spec L2 SeqAt HT
open PyProof.Rows hiding St
def whileL (c : DT) (body : DS) : Nat → DS
  | 0, _ => M.stuck
  | n + 1, ρ => c ρ >>= fun b => if b then body ρ >>= fun o => match o with | .nx ρ' => whileL c body n ρ' | .rt d => M.ret (.rt d) else M.ret (.nx ρ)
def sWhile (c : DT) (body : DS) : DS := fun ρ => whileL c body lim ρ
section
variable {X : Cx} {Xw : Nat → Hp → Prop} {τ : DS} {tc : DT} {pos : Pos}
theorem psd_while {c : Expr} {body : List Stmt} (hp : PassesOwn (model X.prog X.w) X.A X.env X.xe) (hc : PDT X Xw c tc) (hb : PSDs X Xw body τ) : PSD X Xw (.While c body [] pos) (sWhile tc τ) := fun F₀ H₀ => PS.weak (ps_while hp hc hb.ex) fun D σ H ⟨F, ρ, s, w⟩ => by
  refine ⟨fun m σ H => ∃ F ρ, StOk X.K F₀ H₀ F H σ ρ ∧ WPS X.K Xw F₀ H₀ (whileL tc τ m ρ) D, ⟨lim, F, ρ, s, w⟩, ?_⟩
  rintro m σ H ⟨F, ρ, s, w⟩
  cases m with
  | zero => exact w.elim
  | succ m =>
    refine ⟨F, ρ, s.st, ?_⟩
    unfold whileL at w
    match tc ρ, w with
    | none, w => exact w
    | some (.ex n), w => exact fun F' H' e' => w F' H' (s.ext.trans e')
    | some (.ok false), w => exact fun H' F' e' => w σ F' H' (s.ext' e')
    | some (.ok true), w =>
      intro H' F' e'
      have w : WPS X.K Xw F₀ H₀ (τ ρ >>= fun o => match o with | .nx ρ' => whileL tc τ m ρ' | .rt d => M.ret (.rt d)) D := w
      refine ⟨fun σ' H' => ∃ F' ρ', StOk X.K F₀ H₀ F' H' σ' ρ' ∧ WPS X.K Xw F₀ H₀ (whileL tc τ m ρ') D, fun σ' H' h => ⟨m, Nat.lt_succ_self m, h⟩, F₀, H₀, F', ρ, s.ext' e', ?_⟩
      match τ ρ, w with
      | none, w => exact w
      | some (.ok (.nx ρ')), w => exact fun σ' F' H' s' => ⟨F', ρ', s', w⟩
      | some (.ok (.rt d)), w => exact w
      | some (.ex n), w => exact w
end
def keysL : List D → Option (List (List Key))
  | [] => some []
  | d :: ds => match keyT d, keysL ds with
    | some k, some ks => some (k :: ks)
    | _, _ => none
theorem eq_key : ∀ {x y : D} {k k' : Key} {n : Nat}, keyK x = some k → keyK y = some k' → eqF n x y = some (decide (k = k'))
  | .int i, .int j, _, _, n, e1, e2 => by
    cases e1; cases e2
    have : eqF n (.int i) (.int j) = some (i == j) := by cases n <;> rfl
    rw [this]
    congr 1
    by_cases h : i = j
    · subst h; simp
    · simp [h]
  | .str x, .str y, _, _, n, e1, e2 => by
    cases e1; cases e2
    have : eqF n (.str x) (.str y) = some (x == y) := by cases n <;> rfl
    rw [this]
    congr 1
    by_cases h : x = y
    · subst h; simp
    · simp [h]
  | .int i, .str y, _, _, n, e1, e2 => by
    cases e1; cases e2
    have : eqF n (.int i) (.str y) = some false := by cases n <;> rfl
    rw [this]
    simp
  | .str x, .int j, _, _, n, e1, e2 => by
    cases e1; cases e2
    have : eqF n (.str x) (.int j) = some false := by cases n <;> rfl
    rw [this]
    simp
  | .non, _, _, _, _, e1, _ => by cases e1
  | .bl _, _, _, _, _, e1, _ => by cases e1
  | .raw _, _, _, _, _, e1, _ => by cases e1
  | .exc _, _, _, _, _, e1, _ => by cases e1
  | .scr _, _, _, _, _, e1, _ => by cases e1
  | .tup _, _, _, _, _, e1, _ => by cases e1
  | .lst _, _, _, _, _, e1, _ => by cases e1
  | .dct _ _, _, _, _, _, e1, _ => by cases e1
  | .dci _ _, _, _, _, _, e1, _ => by cases e1
  | _, .non, _, _, _, _, e2 => by cases e2
  | _, .bl _, _, _, _, _, e2 => by cases e2
  | _, .raw _, _, _, _, _, e2 => by cases e2
  | _, .exc _, _, _, _, _, e2 => by cases e2
  | _, .scr _, _, _, _, _, e2 => by cases e2
  | _, .tup _, _, _, _, _, e2 => by cases e2
  | _, .lst _, _, _, _, _, e2 => by cases e2
  | _, .dct _ _, _, _, _, _, e2 => by cases e2
  | _, .dci _ _, _, _, _, _, e2 => by cases e2
theorem eq_keys {n : Nat} : ∀ {xs ys : List D} {k k' : List Key}, keyL xs = some k → keyL ys = some k' → eqL (eqF n) xs ys = some (decide (k = k'))
  | [], [], _, _, e1, e2 => by cases e1; cases e2; rfl
  | x :: xs, [], _, _, e1, e2 => by
    cases e2
    unfold keyL at e1
    split at e1
    · cases e1; simp [eqL]
    · cases e1
  | [], y :: ys, _, _, e1, e2 => by
    cases e1
    unfold keyL at e2
    split at e2
    · cases e2; simp [eqL]
    · cases e2
  | x :: xs, y :: ys, _, _, e1, e2 => by
    unfold keyL at e1 e2
    split at e1
    · rename_i k ks q1 q2
      cases e1
      split at e2
      · rename_i k' ks' q3 q4
        cases e2
        unfold eqL
        rw [eq_key q1 q3, eq_keys q2 q4]
        simp
      · cases e2
    · cases e1
theorem eq_keyT {x y : D} {k k' : List Key} {n : Nat} (e1 : keyT x = some k) (e2 : keyT y = some k') : eqF (n + 1) x y = some (decide (k = k')) := by
  cases x with
  | tup xs =>
    cases y with
    | tup ys => exact eq_keys (n := n) e1 e2
    | _ => cases e2
  | _ => cases e1
theorem keyT_den {K : PySem.W.Frag} {F : Hp} {d : D} {v : V} {k : List Key} (e : keyT d = some k) (h : Den K F d v) : ∃ a, v = .ref a ∧ F a = some (.tup (k.map kV)) := by
  cases d with
  | tup ds =>
    obtain ⟨a, vs, rfl, h2, h3, _⟩ := h
    have := keyL_den e h3
    subst this
    exact ⟨a, rfl, h2⟩
  | _ => cases e
def memK (k : List Key) (ks : List (List Key)) : Bool := ks.any fun k' => decide (k' = k)
open Classical in
noncomputable def isKey (H : Hp) (k : List Key) (u : Value) : Bool := decide (∃ a, u = .ref a ∧ H a = some (.tup (k.map kV)))
theorem isKey_den {K : PySem.W.Frag} {F H : Hp} {d : D} {v : V} {u : Value} {k k' : List Key} (hs : Same F H) (e : keyT d = some k') (h : Den K F d v) (r : RelV v u) : isKey H k u = decide (k' = k) := by
  obtain ⟨a, rfl, h2⟩ := keyT_den e h
  cases (show u = _ from r)
  unfold isKey
  by_cases hk : k' = k
  · subst hk
    rw [decide_eq_true rfl]
    exact @decide_eq_true _ (Classical.propDecidable _) ⟨a, rfl, hs _ _ h2⟩
  · rw [decide_eq_false hk]
    refine @decide_eq_false _ (Classical.propDecidable _) fun ⟨b, e1, e2⟩ => hk ?_
    cases e1
    rw [hs _ _ h2] at e2
    injection e2 with e2
    injection e2 with e2
    exact kVs_inj e2
theorem keysL_any {X : Cx} {pins : List (Addr × Obj)} {σ : St} {F H : Hp} {s : Shared} {A : Around} {x : D} {v : V} {u : Value} {k : List Key} (I : Inv X pins σ H s) (hs : Same F H) (hu : A.units + 6 < cLine) (ex : keyT x = some k) (hx : Den X.K F x v) (rx : RelV v u) :
    ∀ {ys : List D} {vs : List V} {its : List Value} {ks : List (List Key)}, keysL ys = some ks → DenL X.K F ys vs → Vals vs its → its.any (isKey H k) = memK k ks ∧ ∀ t ∈ its, EqAt A s t u (isKey H k t)
  | [], _, _, _, e, h, r => by
    cases e
    cases (show _ = _ from h)
    cases r
    exact ⟨rfl, fun t ht => by cases ht⟩
  | y :: ys, _, _, _, e, ⟨w, ws, h1, h2, h3⟩, r => by
    subst h1
    unfold keysL at e
    split at e
    · rename_i k' ks e1 e2
      cases e
      cases r with
      | cons r1 r2 =>
        obtain ⟨ih1, ih2⟩ := keysL_any I hs hu ex hx rx e2 h3 r2
        have hk := isKey_den (k := k) hs e1 h2 r1
        refine ⟨?_, fun t ht => ?_⟩
        · rw [List.any_cons, ih1, hk]
          rfl
        · rcases List.mem_cons.mp ht with rfl | ht
          · rw [hk]
            exact (eq_all I hs 6 A y x w v t u _ hu h2 hx r1 rx (eq_keyT e1 ex)).eq
          · exact ih2 t ht
    · cases e
def gInT (neg : Bool) : D → D → M D
  | x, .lst ys => match keyT x, keysL ys with
    | some k, some ks => M.ret (.bl (if neg then !memK k ks else memK k ks))
    | _, _ => M.stuck
  | x, .tup ys => match keyT x, keysL ys with
    | some k, some ks => M.ret (.bl (if neg then !memK k ks else memK k ks))
    | _, _ => M.stuck
  | _, _ => M.stuck
def rInT (K : PySem.W.Frag) (neg : Bool) : R2 := fun x y H Q => ∃ F dx ys vs p k ks, Same F H ∧ Den K F dx x ∧ keyT dx = some k ∧ keysL ys = some ks ∧ DenL K F ys vs ∧ y = .ref p ∧ (SqL K H p vs ∨ SqT K H p vs) ∧ Q (.bl (if neg then !memK k ks else memK k ks)) H
section
variable {X : Cx} {Xw : Nat → Hp → Prop} {a b : Expr} {δa δb : DE} {pos : Pos}
theorem op_inT (hu : X.A.units + 64 < cLine) : OpR X (compareOp .In) (rInT X.K false) := by
  intro pins s σ H x y v u Q I rx ry h
  obtain ⟨F, dx, ys, vs, p, k, ks, hs, hx, ex, ek, hd, rfl, hq, q⟩ := h
  cases (show u = _ from ry)
  have hu' : X.A.in1.units + 6 < cLine := by show X.A.units + 1 + 6 < cLine; omega
  rcases hq with hq | hq
  · obtain ⟨its, r, pl, hz⟩ := I.list hq
    obtain ⟨e1, e2⟩ := keysL_any (A := X.A.in1) I hs hu' ex hx rx ek hd r
    refine SeqAt.in_listAt (isKey H k) pl.isList (fun w hw => e2 w (by simpa using hw)) ⟨.bl _, H, I, rfl, ?_⟩
    rw [show its.toArray.any (isKey H k) = its.any (isKey H k) by simp, e1]
    exact q
  · obtain ⟨its, r, pl, hz⟩ := I.tuple hq
    obtain ⟨e1, e2⟩ := keysL_any (A := X.A.in1) I hs hu' ex hx rx ek hd r
    refine SeqAt.in_tupleAt (isKey H k) pl (fun w hw => e2 w (by simpa using hw)) ⟨.bl _, H, I, rfl, ?_⟩
    rw [show its.toArray.any (isKey H k) = its.any (isKey H k) by simp, e1]
    exact q
theorem op_notinT (hu : X.A.units + 64 < cLine) : OpR X (compareOp .NotIn) (rInT X.K true) := by
  intro pins s σ H x y v u Q I rx ry h
  obtain ⟨F, dx, ys, vs, p, k, ks, hs, hx, ex, ek, hd, rfl, hq, q⟩ := h
  cases (show u = _ from ry)
  have hu' : X.A.in1.units + 6 < cLine := by show X.A.units + 1 + 6 < cLine; omega
  rcases hq with hq | hq
  · obtain ⟨its, r, pl, hz⟩ := I.list hq
    obtain ⟨e1, e2⟩ := keysL_any (A := X.A.in1) I hs hu' ex hx rx ek hd r
    refine SeqAt.notIn_listAt (isKey H k) pl.isList (fun w hw => e2 w (by simpa using hw)) ⟨.bl _, H, I, rfl, ?_⟩
    rw [show its.toArray.any (isKey H k) = its.any (isKey H k) by simp, e1]
    exact q
  · obtain ⟨its, r, pl, hz⟩ := I.tuple hq
    obtain ⟨e1, e2⟩ := keysL_any (A := X.A.in1) I hs hu' ex hx rx ek hd r
    refine SeqAt.notIn_tupleAt (isKey H k) pl (fun w hw => e2 w (by simpa using hw)) ⟨.bl _, H, I, rfl, ?_⟩
    rw [show its.toArray.any (isKey H k) = its.any (isKey H k) by simp, e1]
    exact q
theorem inT_op {neg : Bool} {K : PySem.W.Frag} : OpD K (rInT K neg) (gInT neg) := fun Xw F H x y dx dy Q s hx hy w => by
  unfold gInT at w
  split at w
  · rename_i ys
    split at w
    · rename_i k ks e1 e2
      obtain ⟨p, vs, h1, h2, h3, _⟩ := hy
      exact ⟨F, dx, ys, vs, p, k, ks, s, hx, e1, e2, h3, h1, .inl (SqL.of (s _ _ h2)), WP.now w s rfl⟩
    · exact w.elim
  · rename_i ys
    split at w
    · rename_i k ks e1 e2
      obtain ⟨p, vs, h1, h2, h3, _⟩ := hy
      exact ⟨F, dx, ys, vs, p, k, ks, s, hx, e1, e2, h3, h1, .inr (SqT.of (s _ _ h2)), WP.now w s rfl⟩
    · exact w.elim
  · exact w.elim
theorem pt_notinT (hu : X.A.units + 64 < cLine) (ha : PD X Xw a δa) (hb : PD X Xw b δb) (hm : behindInMarks .NotIn b = false := by rfl) : PDT X Xw (.Compare a [.NotIn] [b] pos) (tB' (d2 (gInT true) δa δb)) := pt_cmp' (op_notinT hu) inT_op ha hb hm
end
end L3


set_option Elab.async false
set_option linter.all false
namespace L3
open PySem PySem.W PyProof.Rows
def runT {α : Type} (b : Nat → Nat → Bool) : KasT α → α
  | .ret a => a
  | .ask i j k => runT b (k (b i j))
theorem runT_bind {α β : Type} (b : Nat → Nat → Bool) (f : α → KasT β) : ∀ t : KasT α, runT b (t.bind f) = runT b (f (runT b t))
  | .ret _ => rfl
  | .ask i j k => runT_bind b f (k (b i j))
structure Lt (n : Nat) (b : Nat → Nat → Bool) : Prop where
  tr : ∀ i j k, b i j = true → b j k = true → b i k = true
  asy : ∀ i j, b i j = true → b j i = false
  tot : ∀ i j, i < n → j < n → i ≠ j → b i j = true ∨ b j i = true
abbrev at' (p : Array Nat) (i : Nat) : Nat := p.getD i 0
def Ri (b : Nat → Nat → Bool) (p : Array Nat) (k : Nat) : Prop := ∀ i j, i < j → j < k → b (at' p i) (at' p j) = true
def Fa (b : Nat → Nat → Bool) (p : Array Nat) (k : Nat) : Prop := ∀ i j, i < j → j < k → b (at' p j) (at' p i) = true
structure PN (n : Nat) (p : Array Nat) : Prop where
  sz : p.size = n
  lt : ∀ i, i < n → at' p i < n
  inj : ∀ i j, i < n → j < n → at' p i = at' p j → i = j
section
variable {n : Nat} {b : Nat → Nat → Bool} (L : Lt n b)
include L
theorem Ri.more {p : Array Nat} {k : Nat} (h : Ri b p k) (h1 : 1 ≤ k) (e : b (at' p (k - 1)) (at' p k) = true) : Ri b p (k + 1) := fun i j hij hj => by
  by_cases hk : j < k
  · exact h i j hij hk
  · have : j = k := by omega
    subst this
    by_cases hi : i = j - 1
    · subst hi; exact e
    · exact L.tr _ _ _ (h i (j - 1) (by omega) (by omega)) e
theorem Fa.more {p : Array Nat} {k : Nat} (h : Fa b p k) (h1 : 1 ≤ k) (e : b (at' p k) (at' p (k - 1)) = true) : Fa b p (k + 1) := fun i j hij hj => by
  by_cases hk : j < k
  · exact h i j hij hk
  · have : j = k := by omega
    subst this
    by_cases hi : i = j - 1
    · subst hi; exact e
    · exact L.tr _ _ _ e (h i (j - 1) (by omega) (by omega))
theorem asc_run {p : Array Nat} (P : PN n p) : ∀ (f k : Nat), 1 ≤ k → k + f ≤ n → Ri b p k → k ≤ runT b (kas_asc p f k) ∧ runT b (kas_asc p f k) ≤ k + f ∧ Ri b p (runT b (kas_asc p f k)) ∧ (runT b (kas_asc p f k) < k + f → b (at' p (runT b (kas_asc p f k))) (at' p (runT b (kas_asc p f k) - 1)) = true)
  | 0, k, h1, hn, h => ⟨Nat.le_refl _, Nat.le_refl _, h, fun z => absurd z (Nat.lt_irrefl _)⟩
  | f + 1, k, h1, hn, h => by
    have e : runT b (kas_asc p (f + 1) k) = runT b (if b (at' p k) (at' p (k - 1)) = true then KasT.ret k else kas_asc p f (k + 1)) := rfl
    rw [e]
    by_cases hb : b (at' p k) (at' p (k - 1)) = true
    · rw [if_pos hb]
      exact ⟨Nat.le_refl _, by show k ≤ _; omega, h, fun _ => hb⟩
    · rw [if_neg hb]
      have hr : b (at' p (k - 1)) (at' p k) = true := by
        rcases L.tot (at' p (k - 1)) (at' p k) (P.lt _ (by omega)) (P.lt _ (by omega)) (fun z => by have := P.inj _ _ (by omega) (by omega) z; omega) with q | q
        · exact q
        · exact absurd q hb
      obtain ⟨a1, a2, a3, a4⟩ := asc_run P f (k + 1) (by omega) (by omega) (Ri.more L h h1 hr)
      exact ⟨by omega, by omega, a3, fun z => a4 (by omega)⟩
theorem desc_run {p : Array Nat} (P : PN n p) : ∀ (f k : Nat), 1 ≤ k → k + f ≤ n → Fa b p k → ∃ m, runT b (kas_desc f p k 0) = (p, m, 0) ∧ k ≤ m ∧ m ≤ k + f ∧ Fa b p m
  | 0, k, h1, hn, h => ⟨k, rfl, Nat.le_refl _, Nat.le_refl _, h⟩
  | f + 1, k, h1, hn, h => by
    have e : runT b (kas_desc (f + 1) p k 0) = runT b (if b (at' p k) (at' p (k - 1)) = true then (if 0 > 0 then kas_desc f (kas_rev p (k - (0 + 1)) k) (k + 1) 0 else kas_desc f p (k + 1) 0)
      else .ask (p.getD (k - 1) 0) (p.getD k 0) fun d => if d = true then .ret (p, k, 0) else kas_desc f p (k + 1) (0 + 1)) := rfl
    rw [e]
    by_cases hb : b (at' p k) (at' p (k - 1)) = true
    · rw [if_pos hb, if_neg (by omega)]
      obtain ⟨m, e1, e2, e3, e4⟩ := desc_run P f (k + 1) (by omega) (by omega) (Fa.more L h h1 hb)
      exact ⟨m, e1, by omega, by omega, e4⟩
    · rw [if_neg hb]
      have hr : b (at' p (k - 1)) (at' p k) = true := by
        rcases L.tot (at' p (k - 1)) (at' p k) (P.lt _ (by omega)) (P.lt _ (by omega)) (fun z => by have := P.inj _ _ (by omega) (by omega) z; omega) with q | q
        · exact q
        · exact absurd q hb
      refine ⟨k, ?_, Nat.le_refl _, by omega, h⟩
      show runT b (if b (at' p (k - 1)) (at' p k) = true then KasT.ret (p, k, 0) else kas_desc f p (k + 1) (0 + 1)) = _
      rw [if_pos hr]
      rfl
end
theorem getD_q (p : Array Nat) (k : Nat) : at' p k = (p[k]?).getD 0 := by
  unfold at'
  rw [Array.getD_eq_getD_getElem?]
theorem rev_at {p : Array Nat} {m : Nat} (hm : m ≤ p.size) (k : Nat) : at' (kas_rev p 0 m) k = if k < m then at' p (m - 1 - k) else at' p k := by
  have e := getElem?_mirror_all (xs := p) (i := 0) hm k
  rw [getD_q]
  show (((mirror p 0 m ((m - 0) / 2))[k]?).getD 0) = _
  rw [e]
  by_cases h : k < m
  · rw [if_pos ⟨Nat.zero_le _, h⟩, if_pos h, getD_q, Nat.zero_add]
  · rw [if_neg (fun z => h z.2), if_neg h, getD_q]
theorem bub_at {p : Array Nat} {k l : Nat} (hk : k < p.size) (hl : l ≤ k) (j : Nat) : at' (bubble p k (k - l)) j = if j = l then at' p k else if l < j ∧ j ≤ k then at' p (j - 1) else at' p j := by
  have e := getElem?_bubble hk (k - l) (by omega) j
  have e2 : k - (k - l) = l := by omega
  rw [e2] at e
  rw [getD_q (bubble p k (k - l)), e, getD_q p k, getD_q p (j - 1), getD_q p j]
  by_cases c1 : j = l
  · rw [if_pos c1, if_pos c1]
  · rw [if_neg c1, if_neg c1]
    by_cases c2 : l < j ∧ j ≤ k
    · rw [if_pos c2, if_pos c2]
    · rw [if_neg c2, if_neg c2]
section
variable {n : Nat} {b : Nat → Nat → Bool}
theorem PN.rev {p : Array Nat} (P : PN n p) {m : Nat} (hm : m ≤ n) : PN n (kas_rev p 0 m) := by
  have ha := rev_at (p := p) (m := m) (by rw [P.sz]; exact hm)
  refine ⟨(mirror_size ..).trans P.sz, fun i hi => ?_, fun i j hi hj e => ?_⟩
  · rw [ha]
    split
    · exact P.lt _ (by omega)
    · exact P.lt _ hi
  · rw [ha, ha] at e
    split at e <;> split at e
    · have := P.inj _ _ (by omega) (by omega) e; omega
    · have := P.inj _ _ (by omega) hj e; omega
    · have := P.inj _ _ hi (by omega) e; omega
    · exact P.inj _ _ hi hj e
theorem PN.bub {p : Array Nat} (P : PN n p) {k l : Nat} (hk : k < n) (hl : l ≤ k) : PN n (bubble p k (k - l)) := by
  have ha := bub_at (p := p) (k := k) (l := l) (by rw [P.sz]; exact hk) hl
  refine ⟨(bubble_size ..).trans P.sz, fun i hi => ?_, fun i j hi hj e => ?_⟩
  · rw [ha]
    split
    · exact P.lt _ hk
    · split
      · exact P.lt _ (by omega)
      · exact P.lt _ hi
  · rw [ha, ha] at e
    split at e
    · split at e
      · omega
      · split at e
        · have := P.inj _ _ hk (by omega) e; omega
        · have := P.inj _ _ hk hj e; omega
    · split at e
      · split at e
        · have := P.inj _ _ (by omega) hk e; omega
        · split at e
          · have := P.inj _ _ (by omega) (by omega) e; omega
          · have := P.inj _ _ (by omega) hj e; omega
      · split at e
        · have := P.inj _ _ hi hk e; omega
        · split at e
          · have := P.inj _ _ hi (by omega) e; omega
          · exact P.inj _ _ hi hj e
theorem Fa.rev {p : Array Nat} (P : PN n p) {m : Nat} (hm : m ≤ n) (h : Fa b p m) : Ri b (kas_rev p 0 m) m := fun i j hij hj => by
  have ha := rev_at (p := p) (m := m) (by rw [P.sz]; exact hm)
  rw [ha, ha, if_pos (by omega), if_pos hj]
  exact h _ _ (by omega) (by omega)
variable (L : Lt n b)
include L
theorem tail_run {p : Array Nat} (P : PN n p) {m : Nat} (h1 : 1 ≤ m) (hm : m ≤ n) (h : Fa b p m) : ∃ k q, runT b (kas_tail3 m n p) = (k, q) ∧ PN n q ∧ 1 ≤ k ∧ k ≤ n ∧ Ri b q k := by
  unfold kas_tail3
  rw [runT_bind]
  obtain ⟨a1, a2, a3, _⟩ := asc_run L (P.rev hm) (n - m) m h1 (by omega) (Fa.rev P hm h)
  exact ⟨_, _, rfl, P.rev hm, by omega, by omega, a3⟩
theorem count_run {p : Array Nat} (P : PN n p) (h2 : 2 ≤ n) : ∃ k q, runT b (kas_count n p) = (k, q) ∧ PN n q ∧ 1 ≤ k ∧ k ≤ n ∧ Ri b q k := by
  unfold kas_count
  rw [runT_bind]
  obtain ⟨a1, a2, a3, a4⟩ := asc_run L P (n - 1) 1 (Nat.le_refl _) (by omega) (fun i j hij hj => by omega)
  generalize runT b (kas_asc p (n - 1) 1) = m at a1 a2 a3 a4
  by_cases he : m = n
  · subst he
    rw [if_pos (by simp)]
    exact ⟨m, p, rfl, P, by omega, Nat.le_refl _, a3⟩
  · rw [if_neg (by simpa using he)]
    by_cases hg : m > 1
    · rw [if_pos hg]
      have hb : b (p.getD 0 0) (p.getD (m - 1) 0) = true := a3 0 (m - 1) (by omega) (by omega)
      show ∃ k q, runT b (if b (p.getD 0 0) (p.getD (m - 1) 0) = true then KasT.ret (m, p) else kas_descPart m n (kas_rev p 0 m)) = (k, q) ∧ _
      rw [if_pos hb]
      exact ⟨m, p, rfl, P, by omega, by omega, a3⟩
    · rw [if_neg hg]
      have hm : m = 1 := by omega
      subst hm
      have hb := a4 (by omega)
      unfold kas_descPart
      rw [runT_bind]
      obtain ⟨m, e1, e2, e3, e4⟩ := desc_run L P (n - (1 + 1)) (1 + 1) (by omega) (by omega) (fun i j hij hj => by
        have hi : i = 0 := by omega
        have hj : j = 1 := by omega
        subst hi hj
        exact hb)
      rw [e1]
      dsimp only
      rw [if_neg (by omega)]
      exact tail_run L P (by omega) (by omega) e4
theorem place_run {p : Array Nat} (P : PN n p) {k : Nat} (hk : k < n) (h : Ri b p k) : ∀ (f l r : Nat), l ≤ r → r ≤ k → r - l ≤ f → (∀ i, i < l → b (at' p i) (at' p k) = true) → (∀ i, r ≤ i → i < k → b (at' p k) (at' p i) = true) →
    runT b (kas_place p k f l r) ≤ k ∧ (∀ i, i < runT b (kas_place p k f l r) → b (at' p i) (at' p k) = true) ∧ ∀ i, runT b (kas_place p k f l r) ≤ i → i < k → b (at' p k) (at' p i) = true
  | 0, l, r, h1, h2, h3, h4, h5 => by
    have : r = l := by omega
    subst this
    exact ⟨h2, h4, h5⟩
  | f + 1, l, r, h1, h2, h3, h4, h5 => by
    unfold kas_place
    by_cases hlr : l ≥ r
    · rw [if_pos hlr]
      have : r = l := by omega
      subst this
      exact ⟨h2, h4, h5⟩
    · rw [if_neg hlr]
      have hm : (l + r) / 2 < r := by omega
      have hm2 : l ≤ (l + r) / 2 := by omega
      show runT b (if b (at' p k) (at' p ((l + r) / 2)) = true then kas_place p k f l ((l + r) / 2) else kas_place p k f ((l + r) / 2 + 1) r) ≤ k ∧ (∀ i, i < runT b (if b (at' p k) (at' p ((l + r) / 2)) = true then kas_place p k f l ((l + r) / 2) else kas_place p k f ((l + r) / 2 + 1) r) → _) ∧ ∀ i, runT b (if b (at' p k) (at' p ((l + r) / 2)) = true then kas_place p k f l ((l + r) / 2) else kas_place p k f ((l + r) / 2 + 1) r) ≤ i → _
      by_cases hb : b (at' p k) (at' p ((l + r) / 2)) = true
      · rw [if_pos hb]
        refine place_run P hk h f l ((l + r) / 2) hm2 (by omega) (by omega) h4 fun i hi hik => ?_
        by_cases e : i = (l + r) / 2
        · rw [e]; exact hb
        · exact L.tr _ _ _ hb (h _ _ (by omega) hik)
      · rw [if_neg hb]
        have hr : b (at' p ((l + r) / 2)) (at' p k) = true := by
          rcases L.tot (at' p ((l + r) / 2)) (at' p k) (P.lt _ (by omega)) (P.lt _ hk) (fun z => by have := P.inj _ _ (by omega) hk z; omega) with q | q
          · exact q
          · exact absurd q hb
        refine place_run P hk h f ((l + r) / 2 + 1) r (by omega) h2 (by omega) (fun i hi => ?_) h5
        by_cases e : i = (l + r) / 2
        · rw [e]; exact hr
        · exact L.tr _ _ _ (h i ((l + r) / 2) (by omega) (by omega)) hr
theorem bin_run : ∀ (f : Nat) {p : Array Nat} {k : Nat}, PN n p → k + f ≤ n → Ri b p k → PN n (runT b (kas_bin f p k)) ∧ Ri b (runT b (kas_bin f p k)) (k + f)
  | 0, p, k, P, _, h => ⟨P, h⟩
  | f + 1, p, k, P, hn, h => by
    have hk : k < n := by omega
    unfold kas_bin
    rw [runT_bind]
    obtain ⟨a1, a2, a3⟩ := place_run L P hk h k 0 k (Nat.zero_le _) (Nat.le_refl _) (by omega) (fun i hi => by omega) (fun i h1 h2 => by omega)
    generalize runT b (kas_place p k k 0 k) = l at a1 a2 a3
    have ha := bub_at (p := p) (k := k) (l := l) (by rw [P.sz]; exact hk) a1
    have hR : Ri b (bubble p k (k - l)) (k + 1) := fun i j hij hj => by
      rw [ha, ha]
      by_cases c1 : i = l
      · rw [if_pos c1, if_neg (by omega), if_pos ⟨by omega, by omega⟩]
        exact a3 _ (by omega) (by omega)
      · rw [if_neg c1]
        by_cases c2 : j = l
        · rw [if_pos c2, if_neg (by omega)]
          exact a2 _ (by omega)
        · rw [if_neg c2]
          by_cases c3 : l < i ∧ i ≤ k
          · rw [if_pos c3, if_pos ⟨by omega, by omega⟩]
            exact h _ _ (by omega) (by omega)
          · rw [if_neg c3]
            by_cases c4 : l < j ∧ j ≤ k
            · rw [if_pos c4]
              exact h _ _ (by omega) (by omega)
            · rw [if_neg c4]
              exact h _ _ hij (by omega)
    have := bin_run f (P.bub hk a1) (by omega) hR
    rw [show k + (f + 1) = k + 1 + f by omega]
    exact this
theorem sort_run (h2 : 2 ≤ n) : PN n (runT b (kas_sort n)) ∧ Ri b (runT b (kas_sort n)) n := by
  have P0 : PN n (List.toArray (List.range n)) := by
    have e : ∀ i, i < n → at' (List.toArray (List.range n)) i = i := fun i hi => by rw [getD_q]; simp [hi]
    exact ⟨by simp, fun i hi => by rw [e i hi]; exact hi, fun i j hi hj z => by rw [e i hi, e j hj] at z; exact z⟩
  unfold kas_sort
  rw [runT_bind]
  obtain ⟨k, q, e, P, k1, kn, hR⟩ := count_run L P0 h2
  rw [e]
  dsimp only
  by_cases hlt : k < n
  · rw [if_pos hlt]
    have := bin_run L (n - max k 1) (k := max k 1) P (by omega) (by rw [show max k 1 = k by omega]; exact hR)
    rw [show max k 1 + (n - max k 1) = n by omega] at this
    exact this
  · rw [if_neg hlt]
    have : k = n := by omega
    subst this
    exact ⟨P, hR⟩
end
end L3


set_option Elab.async false
set_option linter.all false
set_option maxRecDepth 100000
namespace L3
open PySem PySem.W PyProof.Rows
def Asks {α : Type} (n : Nat) (P : α → Prop) : KasT α → Prop
  | .ret a => P a
  | .ask i j k => i < n ∧ j < n ∧ ∀ c, Asks n P (k c)
theorem Asks.bind {α β : Type} {n : Nat} {P : α → Prop} {Q : β → Prop} {f : α → KasT β} : ∀ {t : KasT α}, Asks n P t → (∀ a, P a → Asks n Q (f a)) → Asks n Q (t.bind f)
  | .ret a, h, hf => hf a h
  | .ask i j k, h, hf => ⟨h.1, h.2.1, fun c => Asks.bind (h.2.2 c) hf⟩
theorem wp_run {α : Type} {n : Nat} {P : α → Prop} {b : Nat → Nat → Bool} {cmp : Nat → Nat → (Bool → Shared → Prop) → Shared → Prop} {Q : α → Shared → Prop} {s : Shared} (hc : ∀ i j C, i < n → j < n → C (b i j) s → cmp i j C s) : ∀ {t : KasT α}, Asks n P t → Q (runT b t) s → t.kasWp cmp Q s
  | .ret a, _, h => h
  | .ask i j k, ha, h => hc i j _ ha.1 ha.2.1 (wp_run hc (ha.2.2 _) h)
def Below (n : Nat) (p : Array Nat) : Prop := ∀ x ∈ p, x < n
section
variable {n : Nat} (hn : 0 < n)
include hn
theorem Below.at {p : Array Nat} (h : Below n p) (i : Nat) : at' p i < n := by
  rw [getD_q]
  cases e : p[i]? with
  | none => exact hn
  | some x => exact h x (Array.mem_of_getElem? e)
theorem Below.rev {p : Array Nat} (h : Below n p) (i j : Nat) : Below n (kas_rev p i j) := fun x hx => h x ((mirror_perm p i j ((j - i) / 2)).mem_iff.mp hx)
theorem Below.bub {p : Array Nat} (h : Below n p) (k d : Nat) : Below n (bubble p k d) := fun x hx => h x ((bubble_perm p k d).mem_iff.mp hx)
theorem asks_asc {p : Array Nat} (h : Below n p) : ∀ f k, Asks n (fun _ => True) (kas_asc p f k)
  | 0, k => trivial
  | f + 1, k => ⟨Below.at hn h _, Below.at hn h _, fun c => by
    show Asks n _ (if c = true then KasT.ret k else kas_asc p f (k + 1))
    cases c
    · exact asks_asc h f (k + 1)
    · exact trivial⟩
theorem asks_desc : ∀ f {p : Array Nat} k q, Below n p → Asks n (fun r => Below n r.1) (kas_desc f p k q)
  | 0, p, k, q, h => h
  | f + 1, p, k, q, h => ⟨Below.at hn h _, Below.at hn h _, fun c => by
    cases c
    · refine ⟨Below.at hn h _, Below.at hn h _, fun d => ?_⟩
      cases d
      · exact asks_desc f _ _ h
      · exact h
    · show Asks n _ (if q > 0 then kas_desc f (kas_rev p (k - (q + 1)) k) (k + 1) 0 else kas_desc f p (k + 1) 0)
      split
      · exact asks_desc f _ _ (Below.rev hn h _ _)
      · exact asks_desc f _ _ h⟩
theorem asks_tail {p : Array Nat} (h : Below n p) (m r : Nat) : Asks n (fun x => Below n x.2) (kas_tail3 m r p) := Asks.bind (asks_asc hn (Below.rev hn h 0 m) _ _) fun _ _ => Below.rev hn h 0 m
theorem asks_dpart {p : Array Nat} (h : Below n p) (m r : Nat) : Asks n (fun x => Below n x.2) (kas_descPart m r p) := Asks.bind (asks_desc hn _ _ _ h) fun x hx => by
  split
  · exact asks_tail hn (Below.rev hn hx _ _) _ _
  · exact asks_tail hn hx _ _
theorem asks_count {p : Array Nat} (h : Below n p) (r : Nat) : Asks n (fun x => Below n x.2) (kas_count r p) := Asks.bind (asks_asc hn h _ _) fun m _ => by
  split
  · exact h
  · split
    · refine ⟨Below.at hn h _, Below.at hn h _, fun c => ?_⟩
      cases c
      · exact asks_dpart hn (Below.rev hn h _ _) _ _
      · exact h
    · exact asks_dpart hn h _ _
theorem asks_place {p : Array Nat} (h : Below n p) (k : Nat) : ∀ f l r, Asks n (fun _ => True) (kas_place p k f l r)
  | 0, l, r => trivial
  | f + 1, l, r => by
    unfold kas_place
    split
    · exact trivial
    · refine ⟨Below.at hn h _, Below.at hn h _, fun c => ?_⟩
      cases c
      · exact asks_place h k f _ _
      · exact asks_place h k f _ _
theorem asks_bin : ∀ f {p : Array Nat} k, Below n p → Asks n (fun _ => True) (kas_bin f p k)
  | 0, p, k, h => trivial
  | f + 1, p, k, h => Asks.bind (asks_place hn h k _ _ _) fun l _ => asks_bin f _ (Below.bub hn h _ _)
theorem asks_sort : Asks n (fun _ => True) (kas_sort n) := by
  have h0 : Below n (List.toArray (List.range n)) := fun x hx => by simpa using hx
  refine Asks.bind (asks_count hn h0 n) fun x hx => ?_
  split
  · exact asks_bin hn _ _ hx
  · exact trivial
end
def lexI : List Int → List Int → Bool
  | [], [] => false
  | [], _ :: _ => true
  | _ :: _, [] => false
  | x :: xs, y :: ys => if x = y then lexI xs ys else decide (x < y)
theorem lexI_tr : ∀ a b c : List Int, lexI a b = true → lexI b c = true → lexI a c = true
  | [], [], _, h, _ => by cases h
  | [], _ :: _, [], _, h => by cases h
  | [], _ :: _, _ :: _, _, _ => rfl
  | _ :: _, [], _, h, _ => by cases h
  | _ :: _, _ :: _, [], _, h => by cases h
  | x :: a, y :: b, z :: c, h1, h2 => by
    unfold lexI at h1 h2 ⊢
    by_cases e1 : x = y
    · subst e1
      rw [if_pos rfl] at h1
      by_cases e2 : x = z
      · subst e2
        rw [if_pos rfl] at h2 ⊢
        exact lexI_tr a b c h1 h2
      · rw [if_neg e2] at h2 ⊢
        exact h2
    · rw [if_neg e1] at h1
      have h1 := of_decide_eq_true h1
      by_cases e2 : y = z
      · subst e2
        rw [if_neg e1]
        exact decide_eq_true h1
      · rw [if_neg e2] at h2
        have h2 := of_decide_eq_true h2
        rw [if_neg (by omega)]
        exact decide_eq_true (by omega)
theorem lexI_asy : ∀ a b : List Int, lexI a b = true → lexI b a = false
  | [], [], h => by cases h
  | [], _ :: _, _ => rfl
  | _ :: _, [], h => by cases h
  | x :: a, y :: b, h => by
    unfold lexI at h ⊢
    by_cases e : x = y
    · subst e
      rw [if_pos rfl] at h ⊢
      exact lexI_asy a b h
    · rw [if_neg e] at h
      have h := of_decide_eq_true h
      rw [if_neg (fun z => e z.symm)]
      exact decide_eq_false (by omega)
theorem lexI_tot : ∀ a b : List Int, a ≠ b → lexI a b = true ∨ lexI b a = true
  | [], [], h => absurd rfl h
  | [], _ :: _, _ => .inl rfl
  | _ :: _, [], _ => .inr rfl
  | x :: a, y :: b, h => by
    unfold lexI
    by_cases e : x = y
    · subst e
      rw [if_pos rfl, if_pos rfl]
      exact lexI_tot a b fun z => h (by rw [z])
    · rw [if_neg e, if_neg (fun z => e z.symm)]
      by_cases q : x < y
      · exact .inl (decide_eq_true q)
      · exact .inr (decide_eq_true (by omega))
section
variable {prog : Program} {w : World} {A : Around} {E : Value → Shared → Prop} {s : Shared}
theorem lex_walk {Q : Bool → Shared → Prop} : ∀ {us vs : List Value} {xs ys : List Int} (i : Nat) {fin : Bool}, IntsAre us xs → IntsAre vs ys → fin = decide (xs.length < ys.length) → Q (lexI xs ys) s → KatLex prog w A true fin Q (us.zip vs) i s
  | _, _, _, _, i, _, .nil, .nil, e, h => by subst e; exact kat_nil h
  | _, _, _, _, i, _, .nil, .cons y t r, e, h => by subst e; exact kat_nil h
  | _, _, _, _, i, _, .cons x t r, .nil, e, h => by subst e; exact kat_nil h
  | _, _, _, _, i, _, .cons (vs := us) (ns := xs) x t r, .cons (vs := vs) (ns := ys) y u r', e, h => by
    refine kat_cons (wpAny_eqBool_int ?_)
    by_cases q : x = y
    · subst q
      rw [show (x == x) = true by simp]
      refine kat_yes (lex_walk (i + 1) r r' (by rw [e]; simp) ?_)
      unfold lexI at h
      rw [if_pos rfl] at h
      exact h
    · rw [show (x == y) = false by simpa using q]
      unfold lexI at h
      rw [if_neg q] at h
      refine kat_no ?_
      by_cases hi : (i == 0) = true
      · rw [hi]
        exact oneLt_int h
      · rw [show (i == 0) = false by simpa using hi]
        exact kat_one _ _ (PyProof.Rows.lt_int h)
def TupsAt (h : Heap) : List Value → List (List Int) → Prop
  | [], [] => True
  | v :: vs, k :: ks => (∃ a o us m, v = .ref a ∧ h.get? a = some o ∧ o.cls = .type "tuple" ∧ o.data = .seq (List.toArray us) m ∧ IntsAre us k ∧ k ≠ []) ∧ TupsAt h vs ks
  | _, _ => False
theorem TupsAt.len {h : Heap} : ∀ {vs : List Value} {ks : List (List Int)}, TupsAt h vs ks → vs.length = ks.length
  | [], [], _ => rfl
  | v :: vs, k :: ks, t => by rw [List.length_cons, List.length_cons, TupsAt.len t.2]
  | [], _ :: _, t => t.elim
  | _ :: _, [], t => t.elim
theorem TupsAt.get {h : Heap} : ∀ {vs : List Value} {ks : List (List Int)} {i : Nat}, TupsAt h vs ks → i < vs.length → ∃ a o us m, vs.getD i Value.none = .ref a ∧ h.get? a = some o ∧ o.cls = .type "tuple" ∧ o.data = .seq (List.toArray us) m ∧ IntsAre us (ks.getD i []) ∧ ks.getD i [] ≠ []
  | v :: vs, k :: ks, 0, t, _ => t.1
  | v :: vs, k :: ks, i + 1, t, hi => TupsAt.get (i := i) t.2 (by simpa using hi)
  | [], _, _, _, hi => by simp at hi
  | _ :: _, [], _, t, _ => t.elim
theorem TupsAt.keep {h h' : Heap} {a : Addr} (k : ∀ b o, b ≠ a → h.get? b = some o → h'.get? b = some o) (ha : ∀ o, h.get? a = some o → o.cls ≠ .type "tuple") : ∀ {vs : List Value} {ks : List (List Int)}, TupsAt h vs ks → TupsAt h' vs ks
  | [], [], _ => trivial
  | v :: vs, x :: ks, ⟨⟨b, o, us, m, e1, e2, e3, e4⟩, t⟩ => ⟨⟨b, o, us, m, e1, k b o (fun z => ha o (by rw [← z]; exact e2) e3) e2, e3, e4⟩, TupsAt.keep k ha t⟩
  | [], _ :: _, t => t.elim
  | _ :: _, [], t => t.elim
theorem ints_len : ∀ {us : List Value} {xs : List Int}, IntsAre us xs → us.length = xs.length
  | _, _, .nil => rfl
  | _, _, .cons x t r => by rw [List.length_cons, List.length_cons, ints_len r]
theorem TupsAt.firsts {M : Model} {h : Heap} : ∀ {vs : List Value} {ks : List (List Int)}, TupsAt h vs ks → ∃ fs, KatTups h vs fs ∧ fs.length = vs.length ∧ ∀ v ∈ fs, Looks M h (typeOf v) (.type "int")
  | [], [], _ => ⟨[], KatTups.nil, rfl, fun _ z => by cases z⟩
  | v :: vs, k :: ks, ⟨⟨a, o, us, m, e1, e2, e3, e4, e5, e6⟩, t⟩ => by
    obtain ⟨fs, q1, q2, q3⟩ := TupsAt.firsts (M := M) t
    subst e1
    cases e5 with
    | nil => exact absurd rfl e6
    | cons x t r =>
      refine ⟨.int x t :: fs, KatTups.cons e2 e3 e4 (by simp) q1, by simp [q2], fun v hv => ?_⟩
      rcases List.mem_cons.mp hv with rfl | hv
      · exact show Looks M h (pure (Value.type "int")) (Value.type "int") from .now
      · exact q3 v hv
  | [], _ :: _, t => t.elim
  | _ :: _, [], t => t.elim
theorem asked {vs : List Value} {ks : List (List Int)} (t : TupsAt s.heap vs ks) (i j : Nat) (C : Bool → Shared → Prop) (hi : i < vs.length) (hj : j < vs.length) (h : C (lexI (ks.getD i []) (ks.getD j [])) s) : kas_ask prog w A (tuples' true) vs i j C s := by
  obtain ⟨a, o, us, m, e1, e2, _, e4, e5, _⟩ := t.get hi
  obtain ⟨a', o', us', m', e1', e2', _, e4', e5', _⟩ := t.get hj
  unfold kas_ask
  rw [e1, e1']
  refine kat_lt e2 e4 e2' e4' (lex_walk 0 e5 e5' ?_ h)
  rw [List.size_toArray, List.size_toArray, ints_len e5, ints_len e5']
theorem nodup_at {α : Type} {l : List α} (h : l.Nodup) {i j : Nat} (hi : i < l.length) (hj : j < l.length) (e : l[i] = l[j]) : i = j := by
  rcases Nat.lt_trichotomy i j with q | q | q
  · exact absurd e (List.pairwise_iff_getElem.mp h i j hi hj q)
  · exact q
  · exact absurd e.symm (List.pairwise_iff_getElem.mp h j i hj hi q)
theorem sort_tups {a : Addr} {c : Nat} {vs : List Value} {ks : List (List Int)} {P : PySem.Fin → Shared → Prop} (ho : s.heap.get? a = some (seqObj "list" vs.toArray c)) (ht : TupsAt s.heap vs ks) (hd : ks.Nodup) (h64 : vs.length < 64)
    (h : ∀ (p : Array Nat) (h' : Heap) (c' : Nat), PN vs.length p → Ri (fun i j => lexI (ks.getD i []) (ks.getD j [])) p vs.length → h'.get? a = some (seqObj "list" (List.toArray (p.toList.map fun i => vs.getD i Value.none)) c') →
      (∀ b o, b ≠ a → s.heap.get? b = some o → h'.get? b = some o) → P (.done (.ret .none)) { s with heap := h' }) : wpAny (model prog w) A (Builtin.«list.sort» ⟨[.ref a], []⟩) P E s := by
  have hsl : sizeLine = 16777216 := sizeLine_eq
  have s1 := Heap.SameBut.update s.heap a (Obj.mapSeq fun _ => (#[] : Array Value))
  obtain ⟨e1, ho1⟩ : ∃ e1, (s.heap.update a (Obj.mapSeq fun _ => (#[] : Array Value))).get? a = some (seqObj "list" #[] e1) := ⟨_, get?_update_seq ho fun _ => #[]⟩
  have k1 : ∀ b o, b ≠ a → s.heap.get? b = some o → (((s.heap.update a (Obj.mapSeq fun _ => (#[] : Array Value))).push (seqObj "tuple" vs.toArray 0)).push (seqObj "list" #[] 0)).get? b = some o := fun b o hb e =>
    Heap.get?_push_of_some _ (Heap.get?_push_of_some _ ((s1.2 b hb).trans e))
  have ho3 := Heap.get?_push_of_some (seqObj "list" #[] 0) (Heap.get?_push_of_some (seqObj "tuple" vs.toArray 0) ho1)
  have t3 := ht.keep k1 (fun o e z => by rw [ho] at e; cases e; exact absurd (Value.type.inj z) (by decide))
  -- what is done with the places at the end
  have fin : ∀ (st : SortSt) (p : Array Nat), PN vs.length p → Ri (fun i j => lexI (ks.getD i []) (ks.getD j [])) p vs.length → (arrOf st).map (·.2) = List.toArray (p.toList.map fun i => vs.getD i Value.none) → failedOf st = none →
      wpAny (model prog w) A (do
        let touched := (← seqEpoch a) != e1
        Builtin.List.listUpdate (.ref a) fun _ => (arrOf st).map (·.2)
        if let some e := failedOf st then rule "list.sort.comparison-raised"; throw e
        if touched then rule "list.sort.modified"; raiseError "ValueError" "list modified during sort"
        ret .none) P E { s with heap := ((s.heap.update a (Obj.mapSeq fun _ => (#[] : Array Value))).push (seqObj "tuple" vs.toArray 0)).push (seqObj "list" #[] 0) } := fun st p hp hr he hf => by
    have hz : (List.toArray (p.toList.map fun i => vs.getD i Value.none)).size = vs.length := by rw [List.size_toArray, List.length_map, Array.length_toList, hp.sz]
    rw [he, hf]
    refine wpAny_bind (seqEpoch_at ho3 rfl (wpAny_bind (listUpdate_at ho3 rfl ?_ (Nat.zero_le _) (by rw [hz, hsl]; omega))))
    simp only [bne_self_eq_false, Bool.false_eq_true, if_false]
    have s2 := Heap.SameBut.update (((s.heap.update a (Obj.mapSeq fun _ => (#[] : Array Value))).push (seqObj "tuple" vs.toArray 0)).push (seqObj "list" #[] 0)) a (Obj.mapSeq fun _ => List.toArray (p.toList.map fun i => vs.getD i Value.none))
    exact wpAny_pure (h p _ _ hp hr (get?_update_seq ho3 fun _ => List.toArray (p.toList.map fun i => vs.getD i Value.none)) fun b o hb e => (s2.2 b hb).trans (k1 b o hb e))
  rw [list_sort_plain]
  refine wpAny_bind (listItems_at ho rfl (wpAny_bind (listUpdate_at ho rfl (wpAny_bind (seqEpoch_at ho1 rfl ?_)) (by rw [List.size_toArray, hsl]; omega) (Nat.zero_le _))))
  refine wpAny_bind (wpAny_newTuple (wpAny_bind (wpAny_newList (wpAny_holding ?_) (Nat.zero_le _))) (by show vs.length ≤ _; rw [hsl]; omega))
  show wpAny (model prog w) A _ P E { s with heap := ((s.heap.update a (Obj.mapSeq fun _ => (#[] : Array Value))).push (seqObj "tuple" vs.toArray 0)).push (seqObj "list" #[] 0) }
  dsimp only
  by_cases hs : vs.toArray.size < 2
  · rw [if_pos hs, if_pos hs]
    have hl2 : vs.length < 2 := by simpa using hs
    refine wpAny_bind (wpAny_pure (wpAny_bind (wpAny_pure ?_)))
    refine fin (SortSt.mk' general' (vs.toArray.zip vs.toArray) #[] 7 none) (List.toArray (List.range vs.length)) ⟨by simp, fun i hi => ?_, fun i j hi hj _ => by omega⟩ (fun i j hij hj => by omega) ?_ rfl
    · rw [getD_q]; simp [hi]
    · show (vs.toArray.zip vs.toArray).map (·.2) = _
      apply Array.toList_inj.mp
      refine List.ext_getElem (by simp) fun i a1 a2 => ?_
      simp at a1
      simp [a1]
  · rw [if_neg hs, if_neg hs]
    have hl2 : 2 ≤ vs.length := by have : ¬ vs.length < 2 := by simpa using hs
                                   omega
    obtain ⟨fs, q1, q2, q3⟩ := t3.firsts (M := model prog w)
    refine wpAny_bind (kat_kind q1 (by omega) q3 rfl ?_)
    have hb : Lt vs.length (fun i j => lexI (ks.getD i []) (ks.getD j [])) := ⟨fun i j k => lexI_tr _ _ _, fun i j => lexI_asy _ _, fun i j hi hj hij => lexI_tot _ _ fun z => hij (by
      rw [ht.len] at hi hj
      rw [List.getD_eq_getElem?_getD, List.getD_eq_getElem?_getD, List.getElem?_eq_getElem hi, List.getElem?_eq_getElem hj] at z
      exact nodup_at hd hi hj (by simpa using z))⟩
    obtain ⟨r1, r2⟩ := sort_run hb hl2
    have run := kat_run (prog := prog) (w := w) (A := A) (E := E) (ks := vs) (vs := vs) (κ := tuples' true) (Q := fun st s' => s' = { s with heap := ((s.heap.update a (Obj.mapSeq fun _ => (#[] : Array Value))).push (seqObj "tuple" vs.toArray 0)).push (seqObj "list" #[] 0) } ∧ ∃ p, PN vs.length p ∧ Ri (fun i j => lexI (ks.getD i []) (ks.getD j [])) p vs.length ∧ (arrOf st).map (·.2) = List.toArray (p.toList.map fun i => vs.getD i Value.none) ∧ failedOf st = none)
      (G := fun p s' => s' = { s with heap := ((s.heap.update a (Obj.mapSeq fun _ => (#[] : Array Value))).push (seqObj "tuple" vs.toArray 0)).push (seqObj "list" #[] 0) } ∧ PN vs.length p ∧ Ri (fun i j => lexI (ks.getD i []) (ks.getD j [])) p vs.length) rfl hl2 h64
      (fun p st' s' a1 a2 a3 a4 => ⟨a4.1, p, a4.2.1, a4.2.2, kat_snds rfl a2, a3⟩)
      (wp_run (s := { s with heap := ((s.heap.update a (Obj.mapSeq fun _ => (#[] : Array Value))).push (seqObj "tuple" vs.toArray 0)).push (seqObj "list" #[] 0) }) (fun i j C hi hj hC => asked t3 i j C hi hj hC) (asks_sort (by omega)) ⟨rfl, r1, r2⟩)
    refine wpAny_bind (wpAny_mono run ?_ fun _ _ e => e)
    rintro ⟨⟨⟩, st'⟩ s' ⟨rfl, p, a1, a2, a3, a4⟩
    exact fin st' p a1 a2 a3 a4
end
end L3


set_option Elab.async false
set_option linter.all false
set_option maxRecDepth 100000
namespace L3
open PySem PySem.W PyProof.Rows
section
variable {prog : Program} {w : World} {A : Around} {E : Value → Shared → Prop} {s : Shared}
theorem iter_keys {d : Addr} {od : Obj} {es : Array DictEntry} {ep : Nat} {Q : Value → Shared → Prop} (lo : (d == sysModules) = false) (ho : s.heap.get? d = some od) (hx : od.ExactDict) (hd : od.data = .dict es ep)
    (hQ : Q (.ref s.heap.objs.size) { s with heap := s.heap.push { cls := .type "dict_keyiterator", data := .fields #[.ref d, .int 0 0, .int es.size 0, .int ep 0] } }) : wpAny (model prog w) A (pyIter (.ref d)) Q E s := by
  have hT : s.TypeIs (.ref d) "dict" := ⟨od, ho, hx.1⟩
  refine wpAny_pyIter_slot hT F.slot_dict_iter (wpAny_call_entry F.slot_dict_iter hT F.entry_dict_iter ?_ (F.args_dict_iter_1 _))
  unfold Builtin.«dict.__iter__» Builtin.Dict.dictSlotNone
  refine wpAny_bind (wpAny_bind (wpAny_notOrdered_dict hT ?_))
  show wpAny _ _ (pure (Value.ref d)) _ _ s
  refine wpAny_pure ?_
  show wpAny _ _ (Builtin.Dict.showsAll d >>= _) _ _ s
  unfold Builtin.Dict.showsAll
  rw [if_neg (by rw [lo]; exact Bool.false_ne_true)]
  refine wpAny_bind (wpAny_pure (wpAny_bind (wpAny_dictEntries ho hd (wpAny_bind (wpAny_dictEpoch ho hd ?_)))))
  refine wpAny_bind (wpAny_newObj_type (wpAny_pure ⟨_, rfl, "dict_keyiterator", _, ⟨_, Heap.get?_push_size _ rfl, rfl⟩, F.slot_dict_keyiterator_next.lookup, ?_⟩))
  simpa [rawInt] using hQ
theorem next_key {it d : Addr} {od : Obj} {es : Array DictEntry} {i ep : Nat} {e : DictEntry} {Q : Option Value → Shared → Prop} (hit : s.heap.IsKeyIter it d i es.size ep) (hod : s.heap.get? d = some od) (hdd : od.data = .dict es ep) (hx : es[i]? = some e)
    (hQ : ∀ h', h'.IsKeyIter it d (i + 1) es.size ep → Heap.SameBut it s.heap h' → Q (some e.key) { s with heap := h' }) : wpAny (model prog w) A (pyNext (.ref it)) Q E s := by
  obtain ⟨o, ho, hc, hd⟩ := id hit
  have hlt : i < es.size := (Array.getElem?_eq_some_iff.mp hx).1
  have hown : Builtin.Dict_items.ownsTuple "dict_keyiterator" = false := by decide
  unfold pyNext
  refine wpAny_bind (wpAny_attempt (wpAny_callSpecial?_slot (name := Str.ofString "__next__") hit.typeIs F.slot_dict_keyiterator_next
    (wpAny_call_entry F.slot_dict_keyiterator_next hit.typeIs F.entry_dict_keyiterator_next ?_ (F.args_dict_keyiterator_next_1 _))))
  refine wpAny_bind (wpAny_pure (wpAny_bind (wpAny_bind ?_)))
  first | refine wpAny_bind (wpAny_typeNameOfWhole_keyiter hit.typeIs (wpAny_pure ?_)) | refine wpAny_bind (wpAny_typeNameOf_keyiter hit.typeIs (wpAny_pure ?_))
  refine wpAny_bind (wpAny_fieldsOf ho hd ?_)
  simp only [hown, Bool.false_eq_true, if_false]
  show wpAny _ _ (if (Value.ref d == Value.none) = true then _ else _) _ _ s
  rw [if_neg (show ¬ ((Value.ref d == Value.none) = true) from Bool.false_ne_true)]
  refine wpAny_bind (wpAny_pure (wpAny_bind (wpAny_dictEntries hod hdd ?_)))
  rw [if_neg (by simp)]
  refine wpAny_bind (wpAny_pure (wpAny_bind (wpAny_dictEpoch hod hdd ?_)))
  rw [if_neg (by simp)]
  refine wpAny_pure ?_
  simp only [show ¬ ((i : Int) < 0) from by omega, if_false, Int.toNat_natCast, hx]
  refine wpAny_bind ?_
  first | refine wpAny_bind (wpAny_typeNameOfWhole_keyiter hit.typeIs (wpAny_pure ?_)) | refine wpAny_bind (wpAny_typeNameOf_keyiter hit.typeIs (wpAny_pure ?_))
  refine wpAny_bind (wpAny_isOneOf_keyiter hit.typeIs ?_)
  show wpAny _ _ (setField (.ref it) 1 (rawInt ((i : Int) + 1)) >>= _) _ _ s
  refine wpAny_bind (wpAny_setField ho hd (by simp) ?_)
  have hit' : (s.heap.update it (Obj.mapFields (·.setIfInBounds 1 (rawInt ((i : Int) + 1))))).IsKeyIter it d (i + 1) es.size ep :=
    ⟨_, Heap.get?_update_self _ ho (Obj.isFreed_of_fields (Obj.data_mapFields hd _)), (Obj.cls_mapFields ..).trans hc, by rw [Obj.data_mapFields hd]; simp [rawInt]⟩
  refine wpAny_bind (wpAny_holding (wpAny_bind (wpAny_isOneOf_keyiter (s := { s with heap := s.heap.update it (Obj.mapFields (·.setIfInBounds 1 (rawInt ((i : Int) + 1)))) }) hit'.typeIs ?_)))
  show wpAny _ _ (pure e.key) _ _ _
  exact wpAny_pure (wpAny_pure ⟨_, rfl, wpAny_pure (hQ _ hit' (Heap.SameBut.update ..))⟩)
theorem end_keys' {it d : Addr} {od : Obj} {es : Array DictEntry} {ep i : Nat} {Q : Option Value → Shared → Prop} (hh : A.handled = none) (hit : s.heap.IsKeyIter it d i es.size ep) (hi : es.size ≤ i) (hod : s.heap.get? d = some od) (hdd : od.data = .dict es ep)
    (hQ : ∀ h', Heap.ExtBut it s.heap h' → Q none { s with heap := h' }) : wpAny (model prog w) A (pyNext (.ref it)) Q E s := by
  obtain ⟨o, ho, hc, hd⟩ := id hit
  have hown : Builtin.Dict_items.ownsTuple "dict_keyiterator" = false := by decide
  unfold pyNext
  refine wpAny_bind (wpAny_attempt (wpAny_callSpecial?_slot (name := Str.ofString "__next__") hit.typeIs F.slot_dict_keyiterator_next
    (wpAny_call_entry F.slot_dict_keyiterator_next hit.typeIs F.entry_dict_keyiterator_next ?_ (F.args_dict_keyiterator_next_1 _))))
  refine wpAny_bind (wpAny_pure (wpAny_bind (wpAny_bind ?_)))
  first | refine wpAny_bind (wpAny_typeNameOfWhole_keyiter hit.typeIs (wpAny_pure ?_)) | refine wpAny_bind (wpAny_typeNameOf_keyiter hit.typeIs (wpAny_pure ?_))
  refine wpAny_bind (wpAny_fieldsOf ho hd ?_)
  simp only [hown, Bool.false_eq_true, if_false]
  show wpAny _ _ (if (Value.ref d == Value.none) = true then _ else _) _ _ s
  rw [if_neg (show ¬ ((Value.ref d == Value.none) = true) from Bool.false_ne_true)]
  refine wpAny_bind (wpAny_pure (wpAny_bind (wpAny_dictEntries hod hdd ?_)))
  rw [if_neg (by simp)]
  refine wpAny_bind (wpAny_pure (wpAny_bind (wpAny_dictEpoch hod hdd ?_)))
  rw [if_neg (by simp)]
  refine wpAny_pure ?_
  simp only [show ¬ ((i : Int) < 0) from by omega, if_false, Int.toNat_natCast, Array.getElem?_eq_none hi]
  refine wpAny_bind ?_
  first | refine wpAny_bind (wpAny_typeNameOfWhole_keyiter hit.typeIs (wpAny_pure ?_)) | refine wpAny_bind (wpAny_typeNameOf_keyiter hit.typeIs (wpAny_pure ?_))
  show wpAny _ _ (setField (.ref it) 0 .none >>= _) _ _ s
  refine wpAny_bind (wpAny_setField ho hd (by simp) ?_)
  show wpAny _ _ (newExc (.type "StopIteration") [] >>= _) _ _ _
  refine wpAny_bind ?_
  simp only [newExc, newTuple]
  refine wpAny_bind (wpAny_newObj_type ?_ (by size_fits))
  refine wpAny_bind (m := firstArgMember _ _) (wpAny_of_eq (a := Value.none) (by first | rfl | (simp only [firstArgMember]; rfl)) ?_)
  refine wpAny_newObj_type ?_ (by size_fits)
  simp only [raiseNew]
  refine wpAny_bind (wpAny_handled ?_)
  rw [show A.in1.handled = none from hh]
  refine wpAny_bind (wpAny_pure (wpAny_throw ?_))
  refine wpAny_bind (wpAny_isInstance (T := "StopIteration") (b := true) ⟨_, Heap.get?_push_size _ rfl, rfl⟩ isSubtype_stop ?_)
  exact wpAny_pure (hQ _ (((Heap.SameBut.update ..).extBut.push _).push _))
theorem end_keys {it d : Addr} {od : Obj} {es : Array DictEntry} {ep : Nat} {Q : Option Value → Shared → Prop} (hh : A.handled = none) (hit : s.heap.IsKeyIter it d es.size es.size ep) (hod : s.heap.get? d = some od) (hdd : od.data = .dict es ep)
    (hQ : ∀ h', Heap.ExtBut it s.heap h' → Q none { s with heap := h' }) : wpAny (model prog w) A (pyNext (.ref it)) Q E s := end_keys' hh hit (Nat.le_refl _) hod hdd hQ
def KeysP (es : Array DictEntry) : Nat → Value → Prop := fun i v => ∃ e, es[i]? = some e ∧ v = e.key
theorem walks_keys (hh : A.handled = none) (I d : Addr) (hne : d ≠ I) {od : Obj} {es : Array DictEntry} {ep : Nat} (hdd : od.data = .dict es ep) :
    Walks prog w A I [I, d] [I] es.size (KeysP es) (fun i h => h.IsKeyIter I d i es.size ep ∧ h.get? d = some od) where
  sub := fun b hb => by simp at hb; simp [hb]
  frame := fun _ _ _ st hk => ⟨st.1.at fun o e => hk I (by simp) o e, hk d (by simp) _ st.2⟩
  item := fun i s Q E hi st hQ => by
    have hx : es[i]? = some es[i] := Array.getElem?_eq_getElem hi
    exact next_key st.1 st.2 hdd hx fun h' hit' hs' => hQ _ h' s.toks ⟨_, hx, rfl⟩ ⟨hit', (hs'.2 d hne).trans st.2⟩ fun b o hb e => hs'.extBut b o (fun h => hb (by simp [h])) e
  done := fun s Q E st hQ => end_keys hh st.1 st.2 hdd fun h' he' => hQ h' s.toks fun b o hb e => he' b o (fun h => hb (by simp [h])) e
  self := fun _ _ _ _ st hQ => wpAny_pyIter_keyiter st.1 hQ
theorem src_keys {d : Addr} {od : Obj} {es : Array DictEntry} {ep : Nat} (lo : (d == sysModules) = false) (hx : od.ExactDict) (hdd : od.data = .dict es ep) : KdlSrc prog w "dict" d d es.size (KeysP es) (fun h => h.get? d = some od) where
  type := fun _ hm => ⟨od, hm, hx.1⟩
  there := fun _ hm => ⟨Heap.lt_size hm, Heap.lt_size hm⟩
  keep := fun _ _ hm hk => hk d (.inl rfl) od hm
  notList := by decide
  notTuple := by decide
  hint := fun _ _ s _ hm hq => kdl_hint_dict ⟨od, hm, hx.1⟩ hq
  iter := fun _ _ hh hm => ⟨_, _, (fun _ _ hq => iter_keys lo hm hx hdd hq), walks_keys hh _ d (Nat.ne_of_lt (Heap.lt_size hm)) hdd, ⟨⟨_, Heap.get?_push_size _ rfl, rfl, rfl⟩, Heap.get?_push_of_some _ hm⟩⟩
end
end L3


set_option Elab.async false
set_option linter.all false
set_option maxRecDepth 100000
namespace L3
open PySem
def insI (k : List Int) : List (List Int) → List (List Int)
  | [] => [k]
  | x :: r => if lexI k x then k :: x :: r else x :: insI k r
def sortI : List (List Int) → List (List Int)
  | [] => []
  | k :: r => insI k (sortI r)
def Rise (l : List (List Int)) : Prop := l.Pairwise fun a b => lexI a b = true
theorem insI_mem {k x : List Int} : ∀ {l : List (List Int)}, x ∈ insI k l ↔ x = k ∨ x ∈ l
  | [] => by simp [insI]
  | y :: r => by
    unfold insI
    split
    · simp
    · rw [List.mem_cons, insI_mem, List.mem_cons]
      constructor
      · rintro (h | h | h) <;> simp [h]
      · rintro (h | h | h) <;> simp [h]
theorem insI_rise {k : List Int} : ∀ {l : List (List Int)}, Rise l → k ∉ l → Rise (insI k l)
  | [], _, _ => List.pairwise_singleton _ _
  | x :: r, h, hk => by
    have h := List.pairwise_cons.mp h
    unfold insI
    split
    · rename_i q
      refine List.pairwise_cons.mpr ⟨fun y hy => ?_, List.pairwise_cons.mpr h⟩
      rcases List.mem_cons.mp hy with rfl | hy
      · exact q
      · exact lexI_tr _ _ _ q (h.1 y hy)
    · rename_i q
      have hx : lexI x k = true := by
        rcases lexI_tot k x (fun z => hk (by rw [z]; exact List.mem_cons_self ..)) with z | z
        · exact absurd z q
        · exact z
      refine List.pairwise_cons.mpr ⟨fun y hy => ?_, insI_rise h.2 fun z => hk (List.mem_cons_of_mem _ z)⟩
      rcases insI_mem.mp hy with rfl | hy
      · exact hx
      · exact h.1 y hy
theorem sortI_mem {x : List Int} : ∀ {l : List (List Int)}, x ∈ sortI l ↔ x ∈ l
  | [] => Iff.rfl
  | k :: r => by unfold sortI; rw [insI_mem, sortI_mem, List.mem_cons]
theorem sortI_rise : ∀ {l : List (List Int)}, l.Nodup → Rise (sortI l)
  | [], _ => List.Pairwise.nil
  | k :: r, h => by
    have h := List.nodup_cons.mp h
    exact insI_rise (sortI_rise h.2) fun z => h.1 (sortI_mem.mp z)
theorem rise_one : ∀ {a b : List (List Int)}, Rise a → Rise b → (∀ x, x ∈ a ↔ x ∈ b) → a = b
  | [], [], _, _, _ => rfl
  | [], y :: b, _, _, h => by have := (h y).mpr (List.mem_cons_self ..); cases this
  | x :: a, [], _, _, h => by have := (h x).mp (List.mem_cons_self ..); cases this
  | x :: a, y :: b, ha, hb, h => by
    have ha := List.pairwise_cons.mp ha
    have hb := List.pairwise_cons.mp hb
    have e : x = y := by
      rcases List.mem_cons.mp ((h x).mp (List.mem_cons_self ..)) with q | q
      · exact q
      · rcases List.mem_cons.mp ((h y).mpr (List.mem_cons_self ..)) with p | p
        · exact p.symm
        · have z1 := hb.1 x q
          have z2 := ha.1 y p
          rw [lexI_asy _ _ z1] at z2
          cases z2
    subst e
    have irr : ∀ k, lexI k k ≠ true := fun k z => by have := lexI_asy _ _ z; rw [z] at this; cases this
    rw [rise_one ha.2 hb.2 fun z => ?_]
    constructor
    · intro hz
      rcases List.mem_cons.mp ((h z).mp (List.mem_cons_of_mem _ hz)) with q | q
      · subst q; exact absurd (ha.1 z hz) (irr z)
      · exact q
    · intro hz
      rcases List.mem_cons.mp ((h z).mpr (List.mem_cons_of_mem _ hz)) with q | q
      · subst q; exact absurd (hb.1 z hz) (irr z)
      · exact q
theorem pigeon : ∀ (n : Nat) (l : List Nat), l.Nodup → (∀ x ∈ l, x < n) → l.length = n → ∀ k, k < n → k ∈ l
  | 0, _, _, _, _, k, hk => by omega
  | n + 1, l, hd, hl, hn, k, hk => by
    by_cases h : n ∈ l
    · by_cases e : k = n
      · subst e; exact h
      · refine List.mem_of_mem_erase (pigeon n (l.erase n) (hd.erase n) (fun x hx => ?_) (by rw [List.length_erase_of_mem h, hn]; rfl) k (by omega))
        have hx := hd.mem_erase_iff.mp hx
        have := hl x hx.2
        have := hx.1
        omega
    · cases l with
      | nil => simp at hn
      | cons x r =>
        have hd := List.nodup_cons.mp hd
        have lt : ∀ y ∈ x :: r, y < n := fun y hy => by
          have := hl y hy
          have : y ≠ n := fun z => h (by rw [← z]; exact hy)
          omega
        exact absurd (pigeon n r hd.2 (fun y hy => lt y (List.mem_cons_of_mem _ hy)) (by simpa using hn) x (lt x (List.mem_cons_self ..))) hd.1
theorem sorted_is {ks : List (List Int)} {p : Array Nat} (hd : ks.Nodup) (P : PN ks.length p) (R : Ri (fun i j => lexI (ks.getD i []) (ks.getD j [])) p ks.length) : (p.toList.map fun i => ks.getD i []) = sortI ks := by
  have hsz : p.toList.length = ks.length := by rw [Array.length_toList]; exact P.sz
  have hat : ∀ i (h : i < p.toList.length), p.toList[i] = at' p i := fun i h => by
    have h' : i < p.size := by rw [Array.length_toList] at h; exact h
    rw [getD_q, Array.getElem?_eq_getElem h']
    simp
  refine rise_one ?_ (sortI_rise hd) fun x => ?_
  · refine List.pairwise_iff_getElem.mpr fun i j hi hj hij => ?_
    rw [List.length_map] at hi hj
    rw [List.getElem_map, List.getElem_map, hat i hi, hat j hj]
    exact R i j hij (by omega)
  · rw [sortI_mem]
    constructor
    · intro hx
      obtain ⟨i, hi, rfl⟩ := List.mem_map.mp hx
      obtain ⟨j, hj, rfl⟩ := List.mem_iff_getElem.mp hi
      have := P.lt j (by omega)
      rw [hat j hj, List.getD_eq_getElem?_getD, List.getElem?_eq_getElem this]
      exact List.getElem_mem this
    · intro hx
      obtain ⟨k, hk, rfl⟩ := List.mem_iff_getElem.mp hx
      -- the places are all taken: an injection of a finite row into itself
      have hperm : k ∈ p.toList := by
        have hn : p.toList.Nodup := List.pairwise_iff_getElem.mpr fun i j hi hj hij z => by
          rw [hat i hi, hat j hj] at z
          have := P.inj i j (by omega) (by omega) z
          omega
        exact pigeon ks.length p.toList hn (fun x hx => by
          obtain ⟨j, hj, rfl⟩ := List.mem_iff_getElem.mp hx
          rw [hat j hj]
          exact P.lt j (by omega)) hsz k hk
      refine List.mem_map.mpr ⟨k, hperm, ?_⟩
      rw [List.getD_eq_getElem?_getD, List.getElem?_eq_getElem hk]
      rfl
end L3


set_option Elab.async false
set_option linter.all false
set_option maxRecDepth 100000
namespace L3
open PySem PySem.Spec L2 SeqAt HT
open PyProof.Rows hiding St
def tupI (k : List Int) : D := .tup (k.map D.int)
def okKeys (ks : List (List Int)) : Bool := decide ks.Nodup && decide (ks.length < 64) && ks.all fun k => !k.isEmpty
def RefsTo (H : Hp) : List V → List (List Int) → Prop := Paired fun v k => ∃ a, v = .ref a ∧ H a = some (.tup (k.map V.int))
theorem refs_den {K : PySem.W.Frag} {F : Hp} : ∀ {ws : List V} {ks : List (List Int)}, RefsTo F ws ks → (∀ k ∈ ks, k.length ≤ lim) → DenL K F (ks.map tupI) ws
  | _, _, .nil, _ => rfl
  | _, _, .cons (b := k) h t, hl => by
    obtain ⟨a, rfl, h⟩ := h
    exact .cons ⟨a, _, rfl, h, DenL.ints k, by rw [List.length_map]; exact hl k (List.mem_cons_self ..)⟩ (refs_den t fun k hk => hl k (List.mem_cons_of_mem _ hk))
theorem refs_tups {X : Cx} {pins : List (Addr × Obj)} {σ : St} {H : Hp} {s : Shared} (I : Inv X pins σ H s) : ∀ {vs : List V} {its : List Value} {ks : List (List Int)}, RefsTo H vs ks → Vals vs its → (∀ k ∈ ks, k ≠ []) → TupsAt s.heap its ks
  | _, _, _, .nil, r, _ => by cases r; exact trivial
  | _, _, _, .cons (b := k) h t, r, hn => by
    obtain ⟨a, rfl, h⟩ := h
    cases r with
    | cons r1 r2 =>
      cases (show _ = _ from r1)
      obtain ⟨us, ru, pt, _⟩ := I.tuple (SqT.of (K := X.K) h)
      obtain ⟨o, q1, q2, m, q3⟩ := pt
      exact ⟨⟨a, o, us, m, rfl, q1, q2, q3, intsAre_of ru, hn k (List.mem_cons_self ..)⟩, refs_tups I t r2 fun k hk => hn k (List.mem_cons_of_mem _ hk)⟩
theorem refs_get {H : Hp} : ∀ {vs : List V} {ks : List (List Int)} {i : Nat}, RefsTo H vs ks → i < vs.length → ∃ a, vs.getD i .non = .ref a ∧ H a = some (.tup ((ks.getD i []).map V.int))
  | _, _, i, .nil, hi => by simp at hi
  | _, _, 0, .cons h t, _ => h
  | _, _, i + 1, .cons h t, hi => refs_get (i := i) t (by simpa using hi)
theorem refs_len {H : Hp} : ∀ {vs : List V} {ks : List (List Int)}, RefsTo H vs ks → vs.length = ks.length
  | _, _, .nil => rfl
  | _, _, .cons h t => by rw [List.length_cons, List.length_cons, refs_len t]
theorem refs_pick {H : Hp} {vs : List V} {ks : List (List Int)} (h : RefsTo H vs ks) : ∀ {is : List Nat}, (∀ i ∈ is, i < vs.length) → RefsTo H (is.map fun i => vs.getD i .non) (is.map fun i => ks.getD i [])
  | [], _ => .nil
  | i :: is, hi => .cons (refs_get h (hi i (List.mem_cons_self ..))) (refs_pick h fun j hj => hi j (List.mem_cons_of_mem _ hj))
theorem vals_getD : ∀ {vs : List V} {us : List Value} (i : Nat), Vals vs us → i < vs.length → RelV (vs.getD i .non) (us.getD i Value.none)
  | _, _, i, .nil, hi => by simp at hi
  | _, _, 0, .cons h t, _ => h
  | _, _, i + 1, .cons h t, hi => vals_getD i t (by simpa using hi)
theorem vals_pick {vs : List V} {us : List Value} (h : Vals vs us) : ∀ {is : List Nat}, (∀ i ∈ is, i < vs.length) → Vals (is.map fun i => vs.getD i .non) (is.map fun i => us.getD i Value.none)
  | [], _ => .nil
  | i :: is, hi => .cons (vals_getD i h (hi i (List.mem_cons_self ..))) (vals_pick h fun j hj => hi j (List.mem_cons_of_mem _ hj))
section
variable {X : Cx} {Xw : Nat → Hp → Prop} {e : Expr} {δs : DA} {pos p : Pos}
theorem sortI_len : ∀ l : List (List Int), (sortI l).length = l.length
  | [] => rfl
  | k :: r => by
    have ins : ∀ (k : List Int) (l : List (List Int)), (insI k l).length = l.length + 1 := by
      intro k l
      induction l with
      | nil => rfl
      | cons x l ih =>
        unfold insI
        split
        · rfl
        · rw [List.length_cons, ih, List.length_cons]
    unfold sortI
    rw [ins, sortI_len r, List.length_cons]
end
end L3


set_option Elab.async false
set_option linter.all false
set_option maxRecDepth 100000
namespace L3
open PySem PySem.Spec L2 SeqAt HT
open PyProof.Rows hiding St
def keyI (k : List Int) : List Key := k.map Sum.inl
def rSrtD : List V → Hp → VK → Prop := fun xs H Q => ∃ p kvs ks, xs = [.ref p] ∧ Rd H p (.dT kvs) ∧ kvs.map (·.1) = ks.map keyI ∧ okKeys ks = true ∧ ∀ (q : Addr) (ws : List V), H q = none → RefsTo H ws (sortI ks) → Q (.ref q) (upd H q (.lst ws))
theorem keys_refs {H : Hp} : ∀ {kvs : List (List Key × V)} {xs : List (List Key × Addr × Value)} {ks : List (List Int)}, Paired (fun (p : List Key × V) (q : List Key × Addr × Value) => p.1 = q.1 ∧ H q.2.1 = some (.tup (p.1.map kV)) ∧ RelV p.2 q.2.2) kvs xs →
    kvs.map (·.1) = ks.map keyI → RefsTo H (xs.map fun x => V.ref x.2.1) ks
  | _, _, [], .nil, _ => .nil
  | _, _, _ :: _, .nil, e => by simp at e
  | _, _, [], .cons h t, e => by simp at e
  | _, _, k :: ks, .cons h t, e => by
    rw [List.map_cons, List.map_cons] at e
    injection e with e1 e2
    refine .cons ⟨_, rfl, ?_⟩ (keys_refs t e2)
    have hk : (keyI k).map kV = k.map V.int := by unfold keyI; rw [List.map_map]; rfl
    rw [h.2.1, e1, hk]
section
variable {X : Cx} {Xw : Nat → Hp → Prop} {e : Expr} {δs : DA} {pos p : Pos}
theorem call_srtD (hc : X.calm = true) : CallR X (.builtin "sorted") rSrtD := by
  intro pins s σ H xs us Q I r h
  obtain ⟨a, kvs, ks, rfl, hH, hkk, hk, q⟩ := h
  obtain ⟨u, rfl, r1⟩ := r.one
  cases (show u = _ from r1)
  obtain ⟨z, lo, xs, rel, o, es, ep, g1, g2, g3, g4, g5⟩ := (show ObjOk X.prog X.w H s.heap a (.dT kvs) from hH.ok I.hok)
  unfold okKeys at hk
  rw [Bool.and_eq_true, Bool.and_eq_true] at hk
  have hd : ks.Nodup := of_decide_eq_true hk.1.1
  have h64 : ks.length < 64 := of_decide_eq_true hk.1.2
  have hne : ∀ k ∈ ks, k ≠ [] := fun k hk' z => by have := List.all_eq_true.mp hk.2 k hk'; rw [z] at this; cases this
  have hr := keys_refs rel hkk
  have hl1 := refs_len hr
  rw [List.length_map] at hl1
  have hes : es.size = xs.length := by rw [← Array.length_toList, g4, List.length_map]
  have hsl : sizeLine = 16777216 := sizeLine_eq
  refine Calls.call_function_entry kind_sorted plain_sorted entry_sorted (args_sorted1 _) ?_
  unfold Builtin.«sorted»
  refine wpAny_bind (m := checkCount "sorted" 1 1 _) (wpAny_pure (wpAny_bind (PySem.W.kdu_collect (A := X.A.in1) (src_keys lo g2 g3) (I.ok.hd hc) g1 (by rw [hes, hsl]; omega) fun h1 tk acc keep1 hacc => ?_)))
  have hal : acc.toList.length = xs.length := by rw [Array.length_toList, ← hes]; exact hacc.1
  have I1 : Inv X pins σ H { s with heap := h1, toks := tk } := I.kept (t' := tk) fun b ob e => keep1 b ob e
  have rv : Vals (xs.map fun x => V.ref x.2.1) acc.toList := by
    have ext : ∀ {vs : List V} {us : List Value}, vs.length = us.length → (∀ (i : Nat) (v : V) (u : Value), vs[i]? = some v → us[i]? = some u → RelV v u) → Vals vs us := by
      intro vs
      induction vs with
      | nil => intro us h _; cases us with | nil => exact .nil | cons _ _ => simp at h
      | cons v vs ih =>
        intro us h hh
        cases us with
        | nil => simp at h
        | cons u us => exact .cons (hh 0 v u rfl rfl) (ih (by simpa using h) fun i v u h1 h2 => hh (i + 1) v u h1 h2)
    refine ext (by rw [List.length_map, hal]) fun i v u e1 e2 => ?_
    rw [Array.getElem?_toList] at e2
    obtain ⟨en, q1, q2⟩ := hacc.2 i u e2
    rw [← Array.getElem?_toList, g4, List.getElem?_map] at q1
    rw [List.getElem?_map] at e1
    cases w : xs[i]? with
    | none => rw [w] at e1; cases e1
    | some x =>
      rw [w] at e1 q1
      cases e1
      cases q1
      exact q2
  have ht := refs_tups I1 hr rv hne
  refine wpAny_bind (wpAny_newList ?_ (by rw [hsl]; omega))
  have hoL : (h1.push (seqObj "list" acc.toList.toArray 0)).get? h1.objs.size = some (seqObj "list" acc.toList.toArray 0) := Heap.get?_push_size _ rfl
  refine wpAny_bind (wpAny_holding (wpAny_call_entry slot_list_sort ⟨_, hoL, rfl⟩ entry_list_sort (sort_tups (s := { s with heap := h1.push (seqObj "list" acc.toList.toArray 0), toks := tk }) hoL
    (ht.keep (a := h1.objs.size) (fun b o _ e => Heap.get?_push_of_some _ e) (fun o e => absurd (Heap.lt_size e) (Nat.lt_irrefl _))) hd (by omega) fun P h' c' hP hR hget hkeep => ?_) (args_list_sort _)))
  have hPl : ∀ i ∈ P.toList, i < (xs.map fun x => V.ref x.2.1).length := fun i hi => by
    obtain ⟨j, hj, rfl⟩ := List.mem_iff_getElem.mp hi
    have h' : j < P.size := by rw [Array.length_toList] at hj; exact hj
    have := hP.lt j (by rw [hP.sz] at h'; exact h')
    rw [getD_q, Array.getElem?_eq_getElem h'] at this
    have e : P.toList[j] = P[j] := by simp
    rw [e, List.length_map]
    have : P[j] < acc.toList.length := this
    omega
  have hP' : PN ks.length P := by rw [← hl1, ← hal]; exact hP
  have hR' : Ri (fun i j => lexI (ks.getD i []) (ks.getD j [])) P ks.length := by rw [← hl1, ← hal]; exact hR
  have hso := sorted_is hd hP' hR'
  have hws := refs_pick hr hPl
  rw [hso] at hws
  refine ⟨_, rfl, wpAny_pure ⟨_, rfl, ⟨.ref h1.objs.size, _, I1.laid (a := h1.objs.size) (t' := tk) (o := .lst (P.toList.map fun i => (xs.map fun x => V.ref x.2.1).getD i .non)) (fun b ob e => hkeep b ob (Nat.ne_of_lt (Heap.lt_size e)) (Heap.get?_push_of_some _ e)) (Nat.le_refl _) ?_, rfl, q _ _ (I1.hok.fresh (Nat.le_refl _)) hws⟩⟩⟩
  exact ⟨by rw [List.length_map, Array.length_toList, hP.sz, hsl]; omega, _, c', vals_pick rv hPl, hget⟩
theorem refs_mono {F F' : Hp} (e : Same F F') : ∀ {ws : List V} {ks : List (List Int)}, RefsTo F ws ks → RefsTo F' ws ks
  | _, _, .nil => .nil
  | _, _, .cons ⟨b, q1, q2⟩ t => .cons ⟨b, q1, e _ _ q2⟩ (refs_mono e t)
theorem refs_frz {F H : Hp} (hs : Same F H) : ∀ {ws : List V} {ks : List (List Int)}, RefsTo H ws ks → ∃ F', Ext F H F' H ∧ RefsTo F' ws ks
  | _, _, .nil => ⟨F, Ext.refl hs, .nil⟩
  | _, _, .cons h t => by
    obtain ⟨a, rfl, h⟩ := h
    obtain ⟨F1, e1, r1⟩ := refs_frz hs t
    have e2 := Ext.tup (F := F1) e1.fh h
    refine ⟨_, e1.trans e2, .cons ⟨a, rfl, upd_same⟩ ?_⟩
    exact refs_mono e2.ff r1
def intsK : List Key → Option (List Int)
  | [] => some []
  | .inl i :: r => (intsK r).map (i :: ·)
  | _ => none
def intsKs : List (List Key) → Option (List (List Int))
  | [] => some []
  | k :: r => match intsK k, intsKs r with
    | some x, some xs => some (x :: xs)
    | _, _ => none
theorem intsK_is : ∀ {k : List Key} {x : List Int}, intsK k = some x → k = keyI x
  | [], _, e => by cases e; rfl
  | .inl i :: r, _, e => by
    unfold intsK at e
    cases q : intsK r with
    | none => rw [q] at e; cases e
    | some y => rw [q] at e; cases e; rw [intsK_is q]; rfl
  | .inr _ :: r, _, e => by cases e
theorem intsKs_is : ∀ {kk : List (List Key)} {ks : List (List Int)}, intsKs kk = some ks → kk = ks.map keyI
  | [], _, e => by cases e; rfl
  | k :: r, _, e => by
    unfold intsKs at e
    split at e
    · rename_i x xs e1 e2
      cases e
      rw [List.map_cons, ← intsK_is e1, ← intsKs_is e2]
    · cases e
def srtDM : List D → M D
  | [.dct kk ds] => match intsKs kk with
    | some ks => if okKeys ks && ks.all (fun k => decide (k.length ≤ lim)) then M.ret (.lst ((sortI ks).map tupI)) else M.stuck
    | none => M.stuck
  | _ => M.stuck
theorem zip_fst {α β : Type} : ∀ {a : List α} {b : List β}, a.length = b.length → (a.zip b).map (·.1) = a
  | [], [], _ => rfl
  | x :: a, y :: b, h => by rw [List.zip_cons_cons, List.map_cons, zip_fst (by simpa using h)]
  | [], _ :: _, h => by simp at h
  | _ :: _, [], h => by simp at h
theorem pd_srtD (hc : X.calm = true) (hg : Gl X "sorted") (hm : X.mg "sorted" = none) (hb : bootBuiltins "sorted" = some (.builtin "sorted")) (ha : PDA X Xw [e] δs) (he : starEach [e] X.env = [(false, eval e X.env)] := by rfl) : PD X Xw (.Call (.Name "sorted" p) [e] [] pos) (dA srtDM δs) :=
  pd_callB (call_srtD hc) (fun Xw F H vs ds Q s h w => by
    unfold srtDM at w
    split at w
    · rename_i kk ds
      obtain ⟨v, rfl, h1⟩ := h.one
      obtain ⟨a, ob, ws, rfl, h2, h3, h4, h5⟩ := h1
      split at w
      · rename_i ks hks
        split at w
        · rename_i hok
          rw [Bool.and_eq_true] at hok
          have hl : ∀ k ∈ ks, k.length ≤ lim := fun k hk => of_decide_eq_true (List.all_eq_true.mp hok.2 k hk)
          have h64 : ks.length < 64 := by
            have := hok.1
            unfold okKeys at this
            rw [Bool.and_eq_true, Bool.and_eq_true] at this
            exact of_decide_eq_true this.1.2
          refine ⟨a, _, ks, rfl, .inr ⟨ob, s _ _ h2⟩, by rw [zip_fst (by rw [h4]; exact h3.len), intsKs_is hks], hok.1, fun q us hq hr => ?_⟩
          obtain ⟨F1, e1, r1⟩ := refs_frz s hr
          have e2 := Ext.lay (o := .lst us) e1.fh hq
          exact WP.fin w (e1.trans e2) ⟨q, _, rfl, upd_same, DenL.mono e2.ff (refs_den r1 fun k hk => hl k (sortI_mem.mp hk)), by rw [List.length_map, sortI_len]; unfold lim; omega⟩
        · exact w.elim
      · exact w.elim
    · exact w.elim) hg hm hb ha (by decide) (by decide) he rfl
end
end L3


set_option Elab.async false
set_option linter.all false
set_option maxRecDepth 100000
namespace L3
open PySem PySem.Spec L2
open PyProof.Rows hiding St
def orM {α : Type} (a b : M α) : M α := match a with
  | none => b
  | some r => some r
def iAlt (a b : DA) : DA := fun ρ => orM (a ρ) (b ρ)
section
variable {X : Cx} {Xw : Nat → Hp → Prop} {e tg : Expr} {es : List Expr} {δ δ' : DE} {δi δi' δs : DA} {τ : DT}
theorem pdi_alt (h : PDI X Xw tg e δi) (h' : PDI X Xw tg e δi') : PDI X Xw tg e (iAlt δi δi') := fun pins s σ H Q I ⟨F, ρ, S, w⟩ => by
  unfold iAlt orM at w
  cases q : δi ρ with
  | none => rw [q] at w; exact h' pins s σ H Q I ⟨F, ρ, S, w⟩
  | some r => rw [q] at w; exact h pins s σ H Q I ⟨F, ρ, S, by rw [q]; exact w⟩
theorem psd_stuck {st : Stmt} : PSD X Xw st (fun _ => M.stuck) := fun F₀ H₀ pins s σ H D I ⟨F, ρ, S, w⟩ => w.elim
end
def fgt : List Nat → Rho → Rho
  | [], ρ => ρ
  | i :: is, ρ => fgt is (ρ.set i none)
def outM (f : Rho → Rho) : Out → M Out
  | .nx ρ => M.ret (.nx (f ρ))
  | .rt d => M.ret (.rt d)
def sFgt (is : List Nat) (τ : DS) : DS := fun ρ => τ ρ >>= outM (fgt is)
theorem StOk.fgt1 {K : PySem.W.Frag} {F₀ H₀ F H : Hp} {σ : St} {ρ : Rho} (s : StOk K F₀ H₀ F H σ ρ) (i : Nat) : StOk K F₀ H₀ F H σ (ρ.set i none) := by
  have get : ∀ (j : Nat) (sl : Sl), (ρ.set i none)[j]? = some (some sl) → ρ[j]? = some (some sl) := fun j sl e => by
    by_cases hj : j = i
    · subst hj
      by_cases hl : j < ρ.length
      · rw [List.getElem?_set_self hl] at e; cases e
      · rw [List.getElem?_eq_none (by simpa using hl)] at e; cases e
    · rw [List.getElem?_set_ne (Ne.symm hj)] at e; exact e
  exact ⟨s.ext, ⟨s.st.fh, fun j sl e => s.st.den j sl (get j sl e)⟩, by simp [s.len], fun j c a e e' => s.own j c a (get j _ e) e', fun j k c c' a e1 e2 e3 e4 => s.sep j k c c' a (get j _ e1) (get k _ e2) e3 e4⟩
theorem StOk.fgt {K : PySem.W.Frag} {F₀ H₀ F H : Hp} {σ : St} : ∀ (is : List Nat) {ρ : Rho}, StOk K F₀ H₀ F H σ ρ → StOk K F₀ H₀ F H σ (L3.fgt is ρ)
  | [], _, s => s
  | i :: is, _, s => StOk.fgt is (s.fgt1 i)
theorem WPS.fgt {K : PySem.W.Frag} {Xw : Nat → Hp → Prop} {F₀ H₀ : Hp} {is : List Nat} {m : M Out} {Dn : Ends} (w : WPS K Xw F₀ H₀ (m >>= outM (L3.fgt is)) Dn) : WPS K Xw F₀ H₀ m Dn := by
  match m, w with
  | none, w => exact w
  | some (.ok (.nx ρ)), w => exact fun σ F H s => w σ F H (s.fgt is)
  | some (.ok (.rt d)), w => exact w
  | some (.ex n), w => exact w
section
variable {X : Cx} {Xw : Nat → Hp → Prop} {st : Stmt} {sts : List Stmt} {τ : DS} {is : List Nat}
theorem psd_fgts (h : PSDs X Xw sts τ) : PSDs X Xw sts (sFgt is τ) := fun F₀ H₀ => PSs.weak (h F₀ H₀) fun D σ H ⟨F, ρ, s, w⟩ => ⟨F, ρ, s, WPS.fgt w⟩
end
def frS : Option Sl → Option Sl
  | some (.ow c) => some (.fz c.d)
  | x => x
def frA (ρ : Rho) : Rho := ρ.map frS
def refA (h : Heap) (P : Addr → Prop) [DecidablePred P] (H : Hp) : Hp := fun b => if P b then (H b).map (frzO ((h.get? b).getD { cls := .none, data := .fields #[] })) else H b
theorem frzO_cases (ob : Obj) (o : HO) : frzO ob o = o ∨ ((∃ k, o = .dT k) ∨ ∃ k, o = .dK k) ∧ frzO ob o = .frz ob o := by
  cases o <;> first | exact .inl rfl | exact .inr ⟨.inl ⟨_, rfl⟩, rfl⟩ | exact .inr ⟨.inr ⟨_, rfl⟩, rfl⟩
section
variable {X : Cx} {pins : List (Addr × Obj)} {σ : St} {H : Hp} {s : Shared} {P : Addr → Prop} [DecidablePred P]
theorem refA_none {h : Heap} {b : Addr} (e : H b = none) : refA h P H b = none := by
  unfold refA; split
  · rw [e]; rfl
  · exact e
theorem refA_some {h : Heap} {b : Addr} {o : HO} (e : H b = some o) : refA h P H b = some o ∨ ((∃ k, o = .dT k) ∨ ∃ k, o = .dK k) ∧ P b ∧ refA h P H b = some (.frz ((h.get? b).getD { cls := .none, data := .fields #[] }) o) := by
  unfold refA; split
  · rename_i hp
    rw [e]
    rcases frzO_cases ((h.get? b).getD { cls := .none, data := .fields #[] }) o with q | ⟨q1, q2⟩
    · exact .inl (by show some _ = _; rw [q])
    · exact .inr ⟨q1, hp, by show some _ = _; rw [q2]⟩
  · exact .inl e
theorem refA_keep {h : Heap} {b : Addr} {o : HO} (e : H b = some o) (n1 : ∀ k, o ≠ .dT k) (n2 : ∀ k, o ≠ .dK k) : refA h P H b = some o := by
  rcases refA_some (P := P) (h := h) e with q | ⟨⟨k, q⟩ | ⟨k, q⟩, _⟩
  · exact q
  · exact absurd q (n1 k)
  · exact absurd q (n2 k)
theorem Inv.refA (I : Inv X pins σ H s) : Inv X pins σ (L3.refA s.heap P H) s := by
  have obj : ∀ b o, H b = some o → ((∃ k, o = HO.dT k) ∨ ∃ k, o = .dK k) → ∃ ob, s.heap.get? b = some ob := fun b o e hu => by
    have hk := I.hok b o e
    rcases hu with ⟨k, h1⟩ | ⟨k, h1⟩
    · subst h1; obtain ⟨_, _, _, _, ob, _, _, q, _⟩ := hk; exact ⟨ob, q⟩
    · subst h1; obtain ⟨_, _, _, _, ob, _, _, q, _⟩ := hk; exact ⟨ob, q⟩
  refine ⟨I.ok, I.os, I.bare, ⟨I.base.keep, I.base.slot, fun b q h1 h2 h3 => refA_none (I.base.free b q h1 h2 h3), I.base.there, fun b xs q => refA_keep (I.base.tups b xs q) (fun _ z => nomatch z) (fun _ z => nomatch z),
    fun b q1 v q => refA_keep (I.base.frzs b q1 v q) (fun _ z => nomatch z) (fun _ z => nomatch z), fun b ps q => ?_⟩, I.loc, I.cell, refA_none I.free, fun x c q => refA_none (I.freeC x c q), fun p hp => ?_, fun b v q => ?_, I.len⟩
  · obtain ⟨m, this⟩ := I.base.tbls b ps q
    exact ⟨m, refA_keep this (fun _ z => nomatch z) (fun _ z => nomatch z)⟩
  · obtain ⟨h1, h2, h3⟩ := I.pin p hp
    exact ⟨h1, refA_none h2, h3⟩
  · have st : ∀ {c : Addr} {v : HO}, ObjOk X.prog X.w H s.heap c v → ObjOk X.prog X.w (L3.refA s.heap P H) s.heap c v := fun {c v} k => k.stay (fun _ _ _ q => q)
      (fun c' q => refA_keep q (fun _ z => nomatch z) (fun _ z => nomatch z)) fun c' xs q => refA_keep q (fun _ z => nomatch z) (fun _ z => nomatch z)
    cases e : H b with
    | none => rw [refA_none e] at q; cases q
    | some o =>
      rcases refA_some (P := P) (h := s.heap) e with z | ⟨hu, hp, z⟩
      · rw [z] at q; cases q; exact st (I.hok b _ e)
      · rw [z] at q
        cases q
        obtain ⟨ob, hob⟩ := obj b o e hu
        rw [hob]
        exact ⟨hob, st (I.hok b o e)⟩
def unA (P : Addr → Prop) [DecidablePred P] (H : Hp) : Hp := fun b => if P b then (match H b with | some (.frz _ u) => some u | x => x) else H b
theorem Inv.unA (I : Inv X pins σ H s) (hP : ∀ b, P b → ∀ o u, X.H₀ b ≠ some (.frz o u)) (hQ : ∀ b, P b → ∀ o u, H b = some (.frz o u) → (∃ k, u = .dT k) ∨ ∃ k, u = .dK k) : Inv X pins σ (L3.unA P H) s := by
  have non : ∀ b, H b = none → L3.unA P H b = none := fun b e => by unfold L3.unA; rw [e]; split <;> rfl
  have keep : ∀ b o, H b = some o → (∀ q u, o ≠ .frz q u) → L3.unA P H b = some o := fun b o e n => by
    unfold L3.unA; split
    · rw [e]; cases o <;> first | rfl | exact absurd rfl (n _ _)
    · exact e
  refine ⟨I.ok, I.os, I.bare, ⟨I.base.keep, I.base.slot, fun b q h1 h2 h3 => non b (I.base.free b q h1 h2 h3), I.base.there, fun b xs q => keep b _ (I.base.tups b xs q) (fun _ _ z => nomatch z),
    fun b q1 v q => ?_, fun b ps q => ?_⟩, I.loc, I.cell, non _ I.free, fun x c q => non _ (I.freeC x c q), fun p hp => ?_, fun b v q => ?_, I.len⟩
  · have := I.base.frzs b q1 v q
    unfold L3.unA
    rw [if_neg (fun hp => hP b hp q1 v q)]
    exact this
  · obtain ⟨m, this⟩ := I.base.tbls b ps q
    exact ⟨m, keep b _ this (fun _ _ z => nomatch z)⟩
  · obtain ⟨h1, h2, h3⟩ := I.pin p hp
    exact ⟨h1, non _ h2, h3⟩
  · have st : ∀ {c : Addr} {v : HO}, ObjOk X.prog X.w H s.heap c v → ObjOk X.prog X.w (L3.unA P H) s.heap c v := fun {c v} k => k.stay (fun _ _ _ q => q)
      (fun c' q => keep c' _ q (fun _ _ z => nomatch z)) fun c' xs q => keep c' _ q (fun _ _ z => nomatch z)
    cases e : H b with
    | none => rw [non b e] at q; cases q
    | some o =>
      have ko := I.hok b o e
      by_cases hf : ∃ ob u, o = .frz ob u
      · obtain ⟨ob, u, rfl⟩ := hf
        unfold L3.unA at q
        split at q
        · rw [e] at q
          cases q
          obtain ⟨_, k2⟩ := ko
          exact st k2
        · rw [e] at q; cases q; exact st ko
      · rw [keep b o e (fun q u z => hf ⟨q, u, z⟩)] at q
        cases q
        exact st ko
end
mutual
def flatD : D → Bool
  | .non => true
  | .bl _ => true
  | .int _ => true
  | .str _ => true
  | .tup ds => flatL ds
  | .raw _ => false
  | .exc _ => false
  | .scr _ => false
  | .lst _ => false
  | .dct _ _ => false
  | .dci _ _ => false
def flatL : List D → Bool
  | [] => true
  | d :: ds => flatD d && flatL ds
end
def flatM (d : D) : M D := if flatD d then M.ret d else M.stuck
end L3


set_option Elab.async false
set_option linter.all false
set_option maxRecDepth 100000
namespace L3
open PySem PySem.Spec L2
open PyProof.Rows hiding St
def OwnAt (σ : St) (ρ : Rho) (b : Addr) : Prop := ∃ (i : Nat) (c : C), ρ[i]? = some (some (Sl.ow c)) ∧ σ[i]? = some (some (V.ref b))
section
variable {K : PySem.W.Frag} {F H F' H' : Hp} {σ : St} {ρ : Rho} {h : Heap} {b : Addr}
theorem OwnAt.obj (S : StE K F H σ ρ) (p : OwnAt σ ρ b) : F b = none ∧ ∃ o, H b = some o ∧ ((∃ x, o = .lst x) ∨ (∃ x, o = .dT x) ∨ ∃ x, o = .dK x) := by
  obtain ⟨i, c, h1, h2⟩ := p
  obtain ⟨v, h3, a, o, rfl, h4, h5, h6⟩ := S.den i _ h1
  rw [h3] at h2
  cases h2
  refine ⟨h5, o, h4, ?_⟩
  cases c with
  | lst ds => obtain ⟨vs, rfl, _⟩ := h6; exact .inl ⟨_, rfl⟩
  | dct ks ds => obtain ⟨vs, rfl, _⟩ := h6; exact .inr (.inl ⟨_, rfl⟩)
  | dci ks ds => obtain ⟨vs, rfl, _⟩ := h6; exact .inr (.inr ⟨_, rfl⟩)
open Classical in
noncomputable def fA (σ : St) (ρ : Rho) (H1 F : Hp) : Hp := fun b => if OwnAt σ ρ b then H1 b else F b
open Classical in
theorem fA_same (S : StE K F H σ ρ) {H1 : Hp} : Same F (fA σ ρ H1 F) := fun b u e => by
  unfold fA
  rw [if_neg (fun p => by rw [(OwnAt.obj S p).1] at e; cases e)]
  exact e
open Classical in
theorem frA_st (S : StE K F H σ ρ) : StE K (fA σ ρ (refA h (OwnAt σ ρ) H) F) (refA h (OwnAt σ ρ) H) σ (frA ρ) := by
  refine ⟨fun b u e => ?_, fun j sl e => ?_⟩
  · unfold fA at e
    split at e
    · exact e
    · rename_i hp
      unfold refA
      rw [if_neg hp]
      exact S.fh b u e
  · unfold frA at e
    rw [List.getElem?_map] at e
    cases q : ρ[j]? with
    | none => rw [q] at e; cases e
    | some x =>
      rw [q] at e
      cases x with
      | none => cases e
      | some y =>
        cases y with
        | fz d =>
          cases e
          obtain ⟨v, h1, h2⟩ := S.den j _ q
          exact ⟨v, h1, Den.mono (fA_same S) h2⟩
        | ow c =>
          cases e
          obtain ⟨v, h1, a, o, rfl, h4, h5, h6⟩ := S.den j _ q
          refine ⟨_, h1, DenC.den (ob := (h.get? a).getD { cls := .none, data := .fields #[] }) h6 (fA_same S) ?_⟩
          have hp : OwnAt σ ρ a := ⟨j, c, q, h1⟩
          unfold fA refA
          rw [if_pos hp, if_pos hp, h4]
          rfl
open Classical in
theorem frA_back (S : StE K F H σ ρ) (E : Ext (fA σ ρ (refA h (OwnAt σ ρ) H) F) (refA h (OwnAt σ ρ) H) F' H') :
    Ext F H (fun b => if OwnAt σ ρ b then none else F' b) (unA (OwnAt σ ρ) H') ∧ ∀ b, OwnAt σ ρ b → ∀ o u, H' b = some (.frz o u) → (∃ k, u = .dT k) ∨ ∃ k, u = .dK k := by
  have at1 : ∀ b, OwnAt σ ρ b → ∃ o, H b = some o ∧ H' b = some (frzO ((h.get? b).getD { cls := .none, data := .fields #[] }) o) ∧ ((∃ x, o = .lst x) ∨ (∃ x, o = .dT x) ∨ ∃ x, o = .dK x) := fun b hp => by
    obtain ⟨_, o, h1, h2⟩ := OwnAt.obj S hp
    refine ⟨o, h1, E.hh b _ ?_, h2⟩
    unfold refA
    rw [if_pos hp, h1]
    rfl
  refine ⟨⟨fun b o e => ?_, fun b u e => ?_, fun b u e => ?_, fun b hb => ?_⟩, fun b hp o u e => ?_⟩
  · unfold unA
    by_cases hp : OwnAt σ ρ b
    · obtain ⟨o', h1, h2, h3⟩ := at1 b hp
      rw [e] at h1
      cases h1
      rw [if_pos hp, h2]
      rcases h3 with ⟨x, rfl⟩ | ⟨x, rfl⟩ | ⟨x, rfl⟩ <;> rfl
    · rw [if_neg hp]
      refine E.hh b o ?_
      unfold refA
      rw [if_neg hp]
      exact e
  · have hp : ¬ OwnAt σ ρ b := fun p => by rw [(OwnAt.obj S p).1] at e; cases e
    show (if OwnAt σ ρ b then none else F' b) = _
    rw [if_neg hp]
    refine E.ff b u ?_
    unfold fA
    rw [if_neg hp]
    exact e
  · have e : (if OwnAt σ ρ b then none else F' b) = some u := e
    split at e
    · cases e
    · rename_i hp
      unfold unA
      rw [if_neg hp]
      exact E.fh b u e
  · show (if OwnAt σ ρ b then none else F' b) = F b ∨ _
    by_cases hp : OwnAt σ ρ b
    · rw [if_pos hp]
      exact .inl (OwnAt.obj S hp).1.symm
    · rw [if_neg hp]
      have e1 : refA h (OwnAt σ ρ) H b = H b := by unfold refA; rw [if_neg hp]
      have e2 : fA σ ρ (refA h (OwnAt σ ρ) H) F b = F b := by unfold fA; rw [if_neg hp]
      rcases E.new b (by rw [e1]; exact hb) with q | q
      · exact .inl (q.trans e2)
      · rw [e1] at q; exact .inr q
  · obtain ⟨o', h1, h2, h3⟩ := at1 b hp
    rw [e] at h2
    rcases h3 with ⟨x, rfl⟩ | ⟨x, rfl⟩ | ⟨x, rfl⟩
    · cases h2
    · cases h2; exact .inl ⟨_, rfl⟩
    · cases h2; exact .inr ⟨_, rfl⟩
open Classical in
mutual
theorem flat_den (S : StE K F H σ ρ) (E : Ext (fA σ ρ (refA h (OwnAt σ ρ) H) F) (refA h (OwnAt σ ρ) H) F' H') : ∀ {d : D} {v : V}, flatD d = true → Den K F' d v → Den K (fun b => if OwnAt σ ρ b then none else F' b) d v
  | .non, _, _, q => q
  | .bl _, _, _, q => q
  | .int _, _, _, q => q
  | .str _, _, _, q => q
  | .tup ds, _, f, ⟨a, vs, h1, h2, h3, h4⟩ => by
    refine ⟨a, vs, h1, ?_, flat_denL S E ?_ h3, h4⟩
    · show (if OwnAt σ ρ a then none else F' a) = _
      rw [if_neg, h2]
      intro hp
      obtain ⟨_, o, k1, k2⟩ := OwnAt.obj S hp
      have k3 : fA σ ρ (refA h (OwnAt σ ρ) H) F a = some (frzO ((h.get? a).getD { cls := .none, data := .fields #[] }) o) := by
        unfold fA refA
        rw [if_pos hp, if_pos hp, k1]
        rfl
      have k4 := E.ff a _ k3
      rw [h2] at k4
      rcases k2 with ⟨x, rfl⟩ | ⟨x, rfl⟩ | ⟨x, rfl⟩ <;> cases k4
    · exact f
  | .raw _, _, f, _ => by cases f
  | .exc _, _, f, _ => by cases f
  | .scr _, _, f, _ => by cases f
  | .lst _, _, f, _ => by cases f
  | .dct _ _, _, f, _ => by cases f
  | .dci _ _, _, f, _ => by cases f
theorem flat_denL (S : StE K F H σ ρ) (E : Ext (fA σ ρ (refA h (OwnAt σ ρ) H) F) (refA h (OwnAt σ ρ) H) F' H') : ∀ {ds : List D} {vs : List V}, flatL ds = true → DenL K F' ds vs → DenL K (fun b => if OwnAt σ ρ b then none else F' b) ds vs
  | [], _, _, q => q
  | d :: ds, _, f, ⟨v, r, h1, h2, h3⟩ => by
    unfold flatL at f
    rw [Bool.and_eq_true] at f
    exact ⟨v, r, h1, flat_den S E f.1 h2, flat_denL S E f.2 h3⟩
end
end
section
variable {X : Cx} {Xw : Nat → Hp → Prop} {e : Expr} {δ : DE} {τ : DT}
theorem own_nofrz {pins : List (Addr × Obj)} {s : Shared} {F H : Hp} {σ : St} {ρ : Rho} (I : Inv X pins σ H s) (S : StE X.K F H σ ρ) (b : Addr) (p : OwnAt σ ρ b) (o : Obj) (u : HO) : X.H₀ b ≠ some (.frz o u) := fun z => by
  obtain ⟨_, o', k1, k2⟩ := OwnAt.obj S p
  have := I.base.frzs b o u z
  rw [k1] at this
  rcases k2 with ⟨x, rfl⟩ | ⟨x, rfl⟩ | ⟨x, rfl⟩ <;> cases this
theorem noex_cases {α : Type} (m : M α) : noex m = M.stuck ∨ ∃ a, m = M.ret a ∧ noex m = M.ret a := by
  rcases m.cs with h | ⟨n, h⟩ | ⟨a, h⟩
  · subst h; exact .inl rfl
  · subst h; exact .inl rfl
  · subst h; exact .inr ⟨a, rfl, rfl⟩
theorem pdt_tf (h : PDT X Xw e τ) : PDT X Xw e (fun ρ => noex (τ (frA ρ))) := fun pins s σ H Q I ⟨F, ρ, S, w⟩ => by
  classical
  rcases noex_cases (τ (frA ρ)) with q | ⟨b, q, q2⟩
  · have w : WPB Xw F H (noex (τ (frA ρ))) Q := w
    rw [q] at w
    exact w.elim
  · have w : WPB Xw F H (noex (τ (frA ρ))) Q := w
    rw [q2] at w
    refine thn (h pins s σ _ (fun b' H' => Q b' (unA (OwnAt σ ρ) H') ∧ ∀ c, OwnAt σ ρ c → ∀ o u, H' c = some (.frz o u) → (∃ k, u = .dT k) ∨ ∃ k, u = .dK k) (Inv.refA (P := OwnAt σ ρ) I) ⟨_, _, frA_st (h := s.heap) S, ?_⟩) fun b' s' ⟨H', I', q1, q3⟩ => ⟨_, Inv.unA I' (own_nofrz I S) q3, q1⟩
    rw [q]
    intro H' F' E
    obtain ⟨E1, q3⟩ := frA_back S E
    exact ⟨w _ _ E1, q3⟩
theorem pd_tf (h : PD X Xw e δ) : PD X Xw e (fun ρ => noex (δ (frA ρ)) >>= flatM) := fun pins s σ H Q I ⟨F, ρ, S, w⟩ => by
  classical
  rcases noex_cases (δ (frA ρ)) with q | ⟨d, q, q2⟩
  · have w : WP X.K Xw F H (noex (δ (frA ρ)) >>= flatM) Q := w
    rw [q] at w
    exact w.elim
  · have w : WP X.K Xw F H (noex (δ (frA ρ)) >>= flatM) Q := w
    rw [q2, bind_ret] at w
    unfold flatM at w
    split at w
    · rename_i hf
      refine thn (h pins s σ _ (fun v H' => Q v (unA (OwnAt σ ρ) H') ∧ ∀ c, OwnAt σ ρ c → ∀ o u, H' c = some (.frz o u) → (∃ k, u = .dT k) ∨ ∃ k, u = .dK k) (Inv.refA (P := OwnAt σ ρ) I) ⟨_, _, frA_st (h := s.heap) S, ?_⟩) fun b' s' ⟨v, H', I', rv, q1, q3⟩ => ⟨v, _, Inv.unA I' (own_nofrz I S) q3, rv, q1⟩
      rw [q]
      intro v H' F' E dn
      obtain ⟨E1, q3⟩ := frA_back S E
      exact ⟨w _ _ _ E1 (flat_den S E hf dn), q3⟩
    · exact w.elim
end
end L3


set_option Elab.async false
set_option linter.all false
set_option maxRecDepth 100000
namespace L3
open PySem PySem.Spec L2
open PyProof.Rows hiding St
abbrev DF := Rho → M C
def WPF (K : PySem.W.Frag) (Xw : Nat → Hp → Prop) (F H : Hp) (m : M C) (Q : VK) : Prop :=
  match m with
  | none => False
  | some (.ok c) => ∀ a o H' F', Ext F H F' H' → H' a = some o → F' a = none → H a = none → DenC K F' c o → Q (.ref a) H'
  | some (.ex n) => ∀ F' H', Ext F H F' H' → Xw n H'
def tDF (K : PySem.W.Frag) (Xw : Nat → Hp → Prop) (δ : DF) : TE := fun σ H Q => ∃ F ρ, StE K F H σ ρ ∧ WPF K Xw F H (δ ρ) Q
def PDF (X : Cx) (Xw : Nat → Hp → Prop) (e : Expr) (δ : DF) : Prop := PE X e (tDF X.K Xw δ)
def sNewF (i : Nat) (δ : DF) : DS := fun ρ => δ ρ >>= fun c => M.ret (.nx (ρ.set i (some (.ow c))))
theorem StOk.setFresh {K : PySem.W.Frag} {F₀ H₀ F H F' H' : Hp} {σ : St} {ρ : Rho} (s : StOk K F₀ H₀ F H σ ρ) {i : Nat} {a : Addr} {o : HO} {c₀ : C} (E : Ext F H F' H') (ho : H' a = some o) (nF : F' a = none) (n : H a = none) (h : DenC K F' c₀ o) :
    StOk K F₀ H₀ F' H' (σ.set i (some (.ref a))) (ρ.set i (some (.ow c₀))) := by
  have hle := s.len
  have get : ∀ (j : Nat) (sl : Sl), (ρ.set i (some (.ow c₀)))[j]? = some (some sl) → (j = i ∧ i < ρ.length ∧ sl = .ow c₀) ∨ (j ≠ i ∧ ρ[j]? = some (some sl)) := fun j sl e => by
    by_cases hj : j = i
    · subst hj
      have hi : j < ρ.length := by
        have := (List.getElem?_eq_some_iff.mp e).1
        simpa using this
      rw [List.getElem?_set_self hi] at e
      cases e
      exact .inl ⟨rfl, hi, rfl⟩
    · rw [List.getElem?_set_ne (Ne.symm hj)] at e
      exact .inr ⟨hj, e⟩
  have old : ∀ (j : Nat) (c : C) (b : Addr), ρ[j]? = some (some (.ow c)) → σ[j]? = some (some (.ref b)) → b ≠ a := fun j c b e e' z => by
    obtain ⟨u, h1, b', o, h2, h3, _⟩ := s.st.den j _ e
    rw [h1] at e'
    cases e'
    cases h2
    rw [z, n] at h3
    cases h3
  refine ⟨s.ext.trans E, ⟨E.fh, fun j sl e => ?_⟩, by simp [hle], fun j c b e e' => ?_, fun j k c c' b e1 e2 e3 e4 => ?_⟩
  · rcases get j sl e with ⟨rfl, hi, rfl⟩ | ⟨hj, e⟩
    · exact ⟨.ref a, by rw [List.getElem?_set_self (by omega)], a, _, rfl, ho, nF, h⟩
    · obtain ⟨u, h1, h2⟩ := s.st.den j sl e
      exact ⟨u, by rw [List.getElem?_set_ne (Ne.symm hj)]; exact h1, h2.ext E⟩
  · rcases get j _ e with ⟨rfl, hi, _⟩ | ⟨hj, e⟩
    · rw [List.getElem?_set_self (by omega)] at e'
      cases e'
      exact Same.free s.ext.hh n
    · rw [List.getElem?_set_ne (Ne.symm hj)] at e'
      exact s.own j c b e e'
  · rcases get j _ e1 with ⟨rfl, hi, _⟩ | ⟨hj, e1⟩
    · rw [List.getElem?_set_self (by omega)] at e3
      cases e3
      rcases get k _ e2 with ⟨rfl, _, _⟩ | ⟨hk, e2⟩
      · rfl
      · rw [List.getElem?_set_ne (Ne.symm hk)] at e4
        exact absurd rfl (old k c' a e2 e4)
    · rcases get k _ e2 with ⟨hki, hi, _⟩ | ⟨hk, e2⟩
      · rw [hki, List.getElem?_set_self (by omega)] at e4
        cases e4
        rw [List.getElem?_set_ne (Ne.symm hj)] at e3
        exact absurd rfl (old j c a (by assumption) e3)
      · rw [List.getElem?_set_ne (Ne.symm hj)] at e3
        rw [List.getElem?_set_ne (Ne.symm hk)] at e4
        exact s.sep j k c c' b e1 e2 e3 e4
theorem WPF.mono {K : PySem.W.Frag} {Xw : Nat → Hp → Prop} {F H : Hp} {m : M C} {Q Q' : VK} (h : WPF K Xw F H m Q) (k : ∀ v H', Q v H' → Q' v H') : WPF K Xw F H m Q' := by
  match m, h with
  | none, h => exact h
  | some (.ok d), h => exact fun a o H' F' e h1 h2 h3 h4 => k _ _ (h a o H' F' e h1 h2 h3 h4)
  | some (.ex n), h => exact h
theorem WPF.ext {K : PySem.W.Frag} {Xw : Nat → Hp → Prop} {F H F1 H1 : Hp} {m : M C} {Q : VK} (e : Ext F H F1 H1) (h : WPF K Xw F H m Q) : WPF K Xw F1 H1 m Q := by
  match m, h with
  | none, h => exact h
  | some (.ok d), h => exact fun a o H' F' e' h1 h2 h3 h4 => h a o H' F' (e.trans e') h1 h2 (Same.free e.hh h3) h4
  | some (.ex n), h => exact fun F2 H2 e2 => h F2 H2 (e.trans e2)
theorem WPF.bindL {K : PySem.W.Frag} {Xw : Nat → Hp → Prop} {F H : Hp} {m : M (List D)} {k : List D → M C} {Q : VK} (h : WPF K Xw F H (m >>= k) Q) : WPL K Xw F H m fun v H1 => ∃ F1 d, Ext F H F1 H1 ∧ DenL K F1 d v ∧ WPF K Xw F1 H1 (k d) Q := by
  match m, h with
  | none, h => exact h
  | some (.ok d), h => exact fun v H2 F2 e2 q => ⟨F2, d, e2, q, WPF.ext e2 (show WPF K Xw F H (k d) Q from h)⟩
  | some (.ex n), h => exact h
def mkC (ds : List D) : M C := if ds.length ≤ lim then M.ret (.lst ds) else M.stuck
section
variable {X : Cx} {Xw : Nat → Hp → Prop} {e k v a b : Expr} {es : List Expr} {δ δ' : DF} {δk δv δa δb : DE} {δs : DA} {pos pos' p : Pos} {x : Str} {i : Nat}
theorem psd_newF (hN : X.N.Nodup) (hi : X.N[i]? = some x) (hx : Loc X.env.scope x) (he : PDF X Xw e δ) (hf : X.fn x = true ∨ X.env.scope.names.lookup x = some .local := by first | exact .inl rfl | exact .inr rfl)
    (hs : swapsWithSole [.Name x pos'] e pos.line X.env = pure false := by rfl) :
    PSD X Xw (.Assign [.Name x pos'] e pos) (sNewF i δ) := fun F₀ H₀ => PS.weak (ps_asg he (pg_name hN hi hx hf) hs) fun D σ H ⟨F, ρ, s, w⟩ => by
  refine ⟨F, ρ, s.st, ?_⟩
  unfold sNewF at w
  match δ ρ, w with
  | none, w => exact w
  | some (.ok c), w => exact fun a o H' F' E h1 h2 h3 h4 => w _ F' H' (s.setFresh E h1 h2 h3 h4)
  | some (.ex n), w => exact fun F' H' e' => w F' H' (s.ext.trans e')
theorem Ext.fresh {F H : Hp} {p : Addr} {o : HO} (s : Same F H) (hp : H p = none) : Ext F H F (upd H p o) ∧ F p = none := ⟨Ext.free s hp, Same.free s hp⟩
theorem pdf_lst (h : PDA X Xw es δs) : PDF X Xw (.List es pos) (fun ρ => δs ρ >>= mkC) := PE.weak (pe_lst h) fun σ H Q ⟨F, ρ, s, w⟩ => by
  refine ⟨F, ρ, s, WPL.mono (WPF.bindL w) fun vs H1 ⟨F1, ds, e1, q1, w1⟩ => ?_⟩
  unfold mkC at w1
  split at w1
  · rename_i hl
    have hv := q1.len
    refine ⟨by have := lim_lt; omega, fun p hp => ?_⟩
    obtain ⟨E, nF⟩ := Ext.fresh (o := .lst vs) e1.fh hp
    exact w1 p _ _ F1 E upd_same nF hp ⟨vs, rfl, q1, hl⟩
  · exact w1.elim
theorem d_set {pins : List (Addr × Obj)} {σ : St} {H H' : Hp} {s : Shared} {a : Addr} {y v : V} {u r : Value} {A : Around} {E : Value → Shared → Prop} {Q : Unit → Shared → Prop} (hu : A.units + 1 < cLine) (I : Inv X pins σ H s) (g : DPut H a y v H') (ry : RelV y u) (rv : RelV v r) (h : ∀ s', Inv X pins σ H' s' → Q () s') :
    wpAny (model X.prog X.w) A (dictSet a u r) Q E s := by
  rcases g with ⟨kvs, k, e, ey, l, eH⟩ | ⟨kvs, k, b, e, ey, eb, l, eH⟩
  · subst ey eH
    obtain ⟨z, hd, vs, rel, dd⟩ := dk_of I.hok e
    have hz : vs.length ≤ sizeLine := by rw [← rel.length]; exact z
    have hl : (putK kvs k v).length ≤ sizeLine := by have := length_putK kvs k v; omega
    refine wpAny_dictSet_pairs (hsz := hz) (kV_is ry) dd fun h' dd' hs => h _ ?_
    have he : ∃ q, h'.get? a = some q := let ⟨q, _, _, hq, _⟩ := dd'; ⟨q, hq⟩
    exact d_write I (by rw [e]; exact True.intro) hs he (dk_new hl hd (rel.put k rv) dd')
  · subst ey eH
    cases (show u = Value.ref b from ry)
    obtain ⟨z, hd, xs, rel, dd⟩ := dt_of I.hok e
    have hz : xs.length ≤ sizeLine := by rw [← Paired.length rel]; exact z
    have hl : (putK kvs k v).length ≤ sizeLine := by have := length_putK kvs k v; omega
    refine wpAny_dictSet_heap (knd := tupleKind (mixKind X.prog X.w)) (hsz := hz) (by exact (show A.units < cLine by omega)) (key_of I.hok eb) dd fun h' dd' hs => h _ ?_
    obtain ⟨q, es, ep, hq, h2, h3, h4, _, h5⟩ := dd'
    refine d_write I (by rw [e]; exact True.intro) hs ⟨q, hq⟩ ⟨hl, hd, _, (rel.put k eb rv).keeps fun c ys ec => ?_, q, es, ep, hq, h2, h3, h4, h5⟩
    rw [upd_ne (ne_of ec e (fun z => nomatch z))]
    exact ec
end
end L3


set_option Elab.async false
set_option linter.all false
set_option maxRecDepth 100000
namespace L3
open PySem PySem.Spec L2
open PyProof.Rows hiding St
section
variable {X : Cx} {Xw : Nat → Hp → Prop} {e k v a b : Expr} {es : List Expr} {δk δv δa δb : DE} {δs : DA} {pos pos' p : Pos} {x : Str} {i : Nat}
theorem disp_run {o0 : HO} {put : Hp → Addr → V → V → Hp → Prop} (hu : X.A.units + 1 < cLine) (h0 : ∀ (H : Hp) (h : Heap), sysModules < h.objs.size → ObjOk X.prog X.w H (h.push { cls := .type "dict", data := .dict #[] }) h.objs.size o0) {tk tv : TE} (hk : PE X k tk) (hv : PE X v tv) :
    PE X (.Dict [some k] [v] pos) (fun σ H Q => ∀ p, H p = none → tk σ (upd H p o0) fun y H1 => tv σ H1 fun z H2 => ∃ H3, DPut H2 p y z H3 ∧ Q (.ref p) H3) := by
  intro pins s σ H Q I q
  have hn := I.hok.fresh (Nat.le_refl s.heap.objs.size)
  have I1 := I.laid (a := s.heap.objs.size) (o := o0) (h' := s.heap.push { cls := .type "dict", data := .dict #[] }) (t' := s.toks) (fun _ _ q => Heap.get?_push_of_some _ q) (Nat.le_refl _) (h0 _ s.heap I.big)
  refine wpAny_Dict_any rfl rfl (by simp) (by simp) (thn (pps_cons hk hv pps_nil pins _ σ _ (fun ps H2 => ∃ y z H3, ps = [(y, z)] ∧ DPut H2 s.heap.objs.size y z H3 ∧ Q (.ref s.heap.objs.size) H3) I1 ?_) fun ws s2 ⟨ps, H2, I2, rel, y, z, H3, ep, g, q2⟩ => ?_)
  · refine ?_
    have := q _ hn
    show tk σ _ fun y H1 => tv σ H1 fun z H2 => ∃ y' z' H3, [(y, z)] = [(y', z')] ∧ DPut H2 s.heap.objs.size y' z' H3 ∧ Q (.ref s.heap.objs.size) H3
    have e : (fun (y : V) (H1 : Hp) => tv σ H1 fun z H2 => ∃ y' z' H3, [(y, z)] = [(y', z')] ∧ DPut H2 s.heap.objs.size y' z' H3 ∧ Q (.ref s.heap.objs.size) H3) = (fun y H1 => tv σ H1 fun z H2 => ∃ H3, DPut H2 s.heap.objs.size y z H3 ∧ Q (.ref s.heap.objs.size) H3) := by
      funext y H1
      congr 1
      funext z H2
      refine propext ⟨fun ⟨y', z', H3, ee, r⟩ => ?_, fun ⟨H3, r⟩ => ⟨y, z, H3, rfl, r⟩⟩
      cases ee
      exact ⟨H3, r⟩
    rw [e]
    exact this
  · subst ep
    cases rel with
    | @cons a b as bs h t =>
      cases t
      obtain ⟨r1, r2⟩ := h
      unfold storeAll
      rw [List.forIn_cons]
      refine wpAny_bind (wpAny_bind (d_set hu I2 g r1 r2 fun s3 I3 => ?_))
      refine wpAny_pure ?_
      show wpAny _ _ (forIn ([] : List (Value × Value)) PUnit.unit _) _ _ _
      rw [List.forIn_nil]
      exact wpAny_pure ⟨V.ref s.heap.objs.size, _, I3, rfl, q2⟩
def dispT (k v : D) : M C := match keyT k with
  | some kk => M.ret (.dct [kk] [v])
  | none => M.stuck
theorem pdf_dispT (hu : X.A.units + 64 < cLine) (hk : PD X Xw k δk) (hv : PD X Xw v δv) : PDF X Xw (.Dict [some k] [v] pos) (fun ρ => δk ρ >>= fun x => δv ρ >>= fun y => dispT x y) :=
  PE.weak (disp_run (o0 := .dT []) (put := DPut) (by omega) (fun H h hb => dt_empty h hb) hk hv) fun σ H Q ⟨F, ρ, s, w⟩ q hq => by
    have e0 := Ext.free (o := .dT []) s.fh hq
    refine ⟨F, ρ, s.ext e0, ?_⟩
    have w : WPF X.K Xw F H (δk ρ >>= fun x => δv ρ >>= fun y => dispT x y) Q := w
    match hk' : δk ρ, w with
    | none, w => exact w
    | some (.ex n), w => exact fun F' H' e' => w F' H' (e0.trans e')
    | some (.ok kd), w =>
      intro y H1 F1 e1 q1
      refine ⟨F1, ρ, (s.ext e0).ext e1, ?_⟩
      have w : WPF X.K Xw F H (δv ρ >>= fun y => dispT kd y) Q := w
      match hv' : δv ρ, w with
      | none, w => exact w
      | some (.ex n), w => exact fun F' H' e' => w F' H' (e0.trans (e1.trans e'))
      | some (.ok vd), w =>
        intro z H2 F2 e2 q2
        have w3 : WPF X.K Xw F H (dispT kd vd) Q := w
        clear w
        unfold dispT at w3
        cases hkk : keyT kd with
        | none => rw [hkk] at w3; exact w3.elim
        | some kk =>
          rw [hkk] at w3
          have E := e1.trans e2
          have hp2 : H2 q = some (.dT []) := E.hh _ _ upd_same
          have hF2 : F2 q = none := by
            have := E.old (a := q) (o := .dT []) upd_same (fun _ z => nomatch z)
            rw [this]
            exact Same.free s.fh hq
          unfold keyT at hkk
          split at hkk
          · rename_i es
            obtain ⟨b, ws, rfl, k2, k3, _⟩ := Den.mono e2.ff q1
            have e5 := keyL_den hkk k3
            subst e5
            refine ⟨_, DPut.t (k := kk) hp2 (e2.fh _ _ k2) (by rw [sizeLine_eq]; decide), ?_⟩
            refine w3 q (.dT (putK [] kk z)) _ F2 ⟨fun c u hc => ?_, (e0.trans E).ff, fun c u hc => ?_, (e0.trans E).new⟩ upd_same hF2 hq ⟨[z], rfl, .cons q2 .nil, rfl, show 1 ≤ lim by decide⟩
            · rw [upd_ne (fun zz => by rw [zz, hq] at hc; cases hc)]
              exact (e0.trans E).hh c u hc
            · rw [upd_ne (fun zz => by rw [zz, hF2] at hc; cases hc)]
              exact e2.fh c u hc
          · cases hkk
theorem atD_den {K : PySem.W.Frag} {F H : Hp} {d k : D} {x y : V} {o : Option D} (s : Same F H) (hd : Den K F d x) (hk : Den K F k y) (e : atD d k = some o) :
    ∃ a ov, x = .ref a ∧ DGet H a y ov ∧ ov.isSome = o.isSome ∧ ∀ d', o = some d' → ∃ v, ov = some v ∧ Den K F d' v := by
  obtain ⟨a, ov, h1, h2, h3, h4⟩ := atD_get (σ := [some x]) (ρ := [some (.fz d)]) (i := 0) (H := H) ⟨s, fun i sl q => by
    match i, q with
    | 0, q => cases q; exact ⟨x, rfl, hd⟩
    | i + 1, q => simp at q⟩ rfl hk e
  cases h1
  exact ⟨a, ov, rfl, h2, h3, h4⟩
def gInD (neg : Bool) (k d : D) : M D := match atD d k with
  | some o => M.ret (.bl (if neg then !o.isSome else o.isSome))
  | none => M.stuck
def rInD (neg : Bool) : R2 := fun y x H Q => ∃ a o, x = .ref a ∧ DGet H a y o ∧ Q (.bl (if neg then !o.isSome else o.isSome)) H
theorem op_inD (hu : X.A.units + 64 < cLine) : OpR X (compareOp .In) (rInD false) := fun pins s σ H y x v u Q I ry rx ⟨a, o, ex, g, q⟩ => by
  subst ex
  obtain rfl : u = Value.ref a := rx
  exact d_in (by omega) I g ry fun s' I' => ⟨.bl o.isSome, _, I', rfl, q⟩
theorem op_notinD (hu : X.A.units + 64 < cLine) : OpR X (compareOp .NotIn) (rInD true) := fun pins s σ H y x v u Q I ry rx ⟨a, o, ex, g, q⟩ => by
  subst ex
  obtain rfl : u = Value.ref a := rx
  exact d_notIn (by omega) I g ry fun s' I' => ⟨.bl (!o.isSome), _, I', rfl, q⟩
theorem opd_inD {K : PySem.W.Frag} {neg : Bool} : OpD K (rInD neg) (gInD neg) := fun Xw F H y x dk dd Q s hk hd w => by
  unfold gInD at w
  cases he : atD dd dk with
  | none => rw [he] at w; exact w.elim
  | some o =>
    rw [he] at w
    obtain ⟨a, ov, h1, h2, h3, _⟩ := atD_den s hd hk he
    refine ⟨a, ov, h1, h2, ?_⟩
    rw [h3]
    exact WP.now w s rfl
theorem pt_inD (hu : X.A.units + 64 < cLine) (ha : PD X Xw a δa) (hb : PD X Xw b δb) (hm : behindInMarks .In b = false := by rfl) : PDT X Xw (.Compare a [.In] [b] pos) (tB' (d2 (gInD false) δa δb)) := pt_cmp' (op_inD hu) opd_inD ha hb hm
theorem pd_inD (hu : X.A.units + 64 < cLine) (ha : PD X Xw a δa) (hb : PD X Xw b δb) (hm : behindInMarks .In b = false := by rfl) : PD X Xw (.Compare a [.In] [b] pos) (d2 (gInD false) δa δb) := pd_cmp (op_inD hu) opd_inD ha hb hm
theorem pt_notinD (hu : X.A.units + 64 < cLine) (ha : PD X Xw a δa) (hb : PD X Xw b δb) (hm : behindInMarks .NotIn b = false := by rfl) : PDT X Xw (.Compare a [.NotIn] [b] pos) (tB' (d2 (gInD true) δa δb)) := pt_cmp' (op_notinD hu) opd_inD ha hb hm
def gIxD (d k : D) : M D := match atD d k with
  | some (some v) => M.ret v
  | _ => M.stuck
theorem pd_ixD (hu : X.A.units + 64 < cLine) (ha : PD X Xw a δa) (hb : PD X Xw b δb) (hs : NoSl b := by intro _ _; rfl) : PD X Xw (.Subscript a b pos) (d2 gIxD δa δb) :=
  PE.weak (pe_dget (by omega) ha hb hs) fun σ H Q ⟨F, ρ, s, w⟩ => by
    refine ⟨F, ρ, s, WP.mono (WP.bind w) fun x H1 ⟨F1, d, e1, q1, w1⟩ => ?_⟩
    refine ⟨F1, ρ, s.ext e1, WP.mono (WP.bind w1) fun y H2 ⟨F2, k, e2, q2, w2⟩ => ?_⟩
    unfold gIxD at w2
    cases he : atD d k with
    | none => rw [he] at w2; exact w2.elim
    | some o =>
      cases o with
      | none => rw [he] at w2; exact w2.elim
      | some d' =>
        rw [he] at w2
        obtain ⟨a, ov, h1, h2, h3, h4⟩ := atD_den e2.fh (Den.mono e2.ff q1) q2 he
        obtain ⟨v, rfl, hd⟩ := h4 d' rfl
        exact ⟨a, v, h1, h2, WP.now w2 e2.fh hd⟩
end
end L3


set_option Elab.async false
set_option linter.all false
set_option maxRecDepth 100000
namespace L3
open PySem PySem.Spec L2
open PyProof.Rows hiding St
section
variable {X : Cx} {pins : List (Addr × Obj)} {σ : St} {H : Hp} {s : Shared} {h' : Heap}
end
section
variable {X : Cx} {Xw : Nat → Hp → Prop} {tg e : Expr} {es : List Expr} {δ δi : DE} {δs : DA} {pos p tp : Pos} {x1 : Nat}
end
end L3


set_option Elab.async false
set_option linter.all false
set_option maxRecDepth 100000
namespace L3
open PySem PySem.Spec L2
open PyProof.Rows hiding St
def keyD : Key → D
  | .inl i => .int i
  | .inr x => .str x
def KeyAt (H : Hp) (d : Addr) (od : Obj) (i : Nat) (x : V) : Prop :=
  (∃ kvs k b, H d = some (.frz od (.dT kvs)) ∧ (kvs.map (·.1))[i]? = some k ∧ x = .ref b ∧ H b = some (.tup (k.map kV))) ∨
  ∃ kvs k, H d = some (.frz od (.dK kvs)) ∧ (kvs.map (·.1))[i]? = some k ∧ x = kV k
def Itd (d : Addr) (od : Obj) : It :=
  ⟨fun i H => (∃ kvs, H d = some (.frz od (.dT kvs)) ∧ i < kvs.length) ∨ ∃ kvs, H d = some (.frz od (.dK kvs)) ∧ i < kvs.length, fun i H x H' => H' = H ∧ KeyAt H d od i x,
    fun i H => (∃ kvs, H d = some (.frz od (.dT kvs)) ∧ kvs.length ≤ i) ∨ ∃ kvs, H d = some (.frz od (.dK kvs)) ∧ kvs.length ≤ i⟩
theorem paired_get {α β : Type} {R : α → β → Prop} : ∀ {l : List α} {m : List β} {i : Nat} {a : α}, Paired R l m → l[i]? = some a → ∃ b, m[i]? = some b ∧ R a b
  | _, _, i, _, .nil, e => by simp at e
  | _, _, 0, _, .cons r t, e => by simp at e; subst e; exact ⟨_, rfl, r⟩
  | _, _, i + 1, _, .cons r t, e => by
    obtain ⟨b, e1, e2⟩ := paired_get (i := i) t (by simpa using e)
    exact ⟨b, by simpa using e1, e2⟩
theorem pairs_get {prog : Program} {w : World} {κ : Type} [DecidableEq κ] {knd : KeyKind prog w κ} : ∀ {es : List DictEntry} {kvs : List (κ × Value)} {i : Nat} {kv : κ × Value}, Pairs knd es kvs → kvs[i]? = some kv → ∃ e, es[i]? = some e ∧ knd.is kv.1 e.key = true := by
  intro es kvs i kv h e
  induction h generalizing i with
  | nil => simp at e
  | @cons en kv' es' kvs' h1 h2 h3 ih =>
    cases i with
    | zero => simp at e; subst e; exact ⟨en, rfl, h1⟩
    | succ i =>
      obtain ⟨q, e1, e2⟩ := ih (i := i) (by simpa using e)
      exact ⟨q, by simpa using e1, e2⟩
theorem kV_rel {k : Key} {u : Value} (h : keyIs k u = true) : RelV (kV k) u := by
  rcases keyIs_shape h with ⟨i, t, rfl, rfl⟩ | ⟨x, t, rfl, rfl⟩
  · exact ⟨t, rfl⟩
  · exact ⟨t, rfl⟩
theorem dict_obj {X : Cx} {pins : List (Addr × Obj)} {σ : St} {H : Hp} {s : Shared} {d : Addr} {od : Obj} {n : Nat} (I : Inv X pins σ H s)
    (h : (∃ kvs, H d = some (.frz od (.dT kvs)) ∧ n = kvs.length) ∨ ∃ kvs, H d = some (.frz od (.dK kvs)) ∧ n = kvs.length) :
    ∃ es ep, (d == sysModules) = false ∧ s.heap.get? d = some od ∧ od.ExactDict ∧ od.data = .dict es ep ∧ es.size = n ∧ ∀ i, i < n → ∃ e x, es[i]? = some e ∧ RelV x e.key ∧ KeyAt H d od i x := by
  rcases h with ⟨kvs, e, rfl⟩ | ⟨kvs, e, rfl⟩
  · obtain ⟨ho, z, lo, xs, rel, o, es, ep, h1, h2, h3, h4, h5⟩ := (show ObjOk X.prog X.w H s.heap d (.frz od (.dT kvs)) from I.hok d _ e)
    rw [ho] at h1
    cases h1
    have hl : es.size = kvs.length := by
      rw [← Array.length_toList, h4, List.length_map]
      exact (Paired.length rel).symm
    refine ⟨es, ep, lo, ho, h2, h3, hl, fun i hi => ?_⟩
    obtain ⟨q, e1, e2, e3, e4⟩ := paired_get rel (List.getElem?_eq_getElem hi)
    refine ⟨entryOfKey (tupleKind (mixKind X.prog X.w)) q, .ref q.2.1, ?_, rfl, .inl ⟨kvs, kvs[i].1, q.2.1, e, ?_, rfl, e3⟩⟩
    · rw [← Array.getElem?_toList, h4, List.getElem?_map, e1]
      rfl
    · rw [List.getElem?_map, List.getElem?_eq_getElem hi]
      rfl
  · obtain ⟨ho, z, lo, vs, rel, o, es, ep, h1, h2, h3, h4, h5, h6⟩ := (show ObjOk X.prog X.w H s.heap d (.frz od (.dK kvs)) from I.hok d _ e)
    rw [ho] at h1
    cases h1
    have hl : es.size = kvs.length := by
      rw [← Array.length_toList, h5.length]
      exact (Paired.length rel).symm
    refine ⟨es, ep, lo, ho, h2, h3, hl, fun i hi => ?_⟩
    obtain ⟨q, e1, e2, e3⟩ := paired_get rel (List.getElem?_eq_getElem hi)
    obtain ⟨en, e4, e5⟩ := pairs_get h5 e1
    refine ⟨en, kV kvs[i].1, by rw [← Array.getElem?_toList]; exact e4, ?_, .inr ⟨kvs, kvs[i].1, e, by rw [List.getElem?_map, List.getElem?_eq_getElem hi]; rfl, rfl⟩⟩
    rw [e2]
    exact kV_rel e5
theorem turn_keys {P : Program} {w : World} {K : PySem.W.Frag} {tg : Expr} (d it : Addr) (od : Obj) (es : Array DictEntry) (ep : Nat) (hdd : od.data = .dict es ep) :
    Turn P w K tg (Itd d od) [it] it (fun i h => h.IsKeyIter it d i es.size ep) where
  mem := by simp
  obj := fun i h st b hb => by
    have e : b = it := by simpa using hb
    subst e
    obtain ⟨o, e, c, dd⟩ := st
    exact ⟨o, e, fun v z => by rw [dd] at z; cases z⟩
  keep := fun i h h' st k => st.at fun o e => k it (by simp) o e
  item := by
    intro X hP hw hK hc i pins s σ H E I hf st hg
    subst hP hw hK
    obtain ⟨n, hn, hi⟩ : ∃ n, ((∃ kvs, H d = some (.frz od (.dT kvs)) ∧ n = kvs.length) ∨ ∃ kvs, H d = some (.frz od (.dK kvs)) ∧ n = kvs.length) ∧ i < n := by
      rcases hg with ⟨kvs, e, hi⟩ | ⟨kvs, e, hi⟩
      · exact ⟨_, .inl ⟨kvs, e, rfl⟩, hi⟩
      · exact ⟨_, .inr ⟨kvs, e, rfl⟩, hi⟩
    obtain ⟨es', ep', lo, ho, hx, hd', hsz, hk⟩ := dict_obj I hn
    rw [hdd] at hd'
    cases hd'
    obtain ⟨en, x, e1, rx, ka⟩ := hk i hi
    obtain ⟨f0, f1, f2, f3, f4, f5⟩ := hf it (by simp)
    refine next_key st ho hdd e1 fun h' st' sb => ?_
    have I1 : Inv X pins σ H { s with heap := h' } := I.turned (t' := s.toks) (fun b o hb e => (sb.2 b hb).trans e) f0 f1 f3 f4 f5
    obtain ⟨o, e2, c, dd⟩ := id st'
    exact ⟨_, rfl, go_of (s := { s with heap := h' }) e2 c dd (by decide) ⟨x, H, I1, rx, ⟨rfl, ka⟩, st', fun b hb => (hf b hb).1⟩⟩
  done := by
    intro X hP hw hK hc i pins s σ H E I hf st hg
    subst hP hw hK
    obtain ⟨n, hn, hi⟩ : ∃ n, ((∃ kvs, H d = some (.frz od (.dT kvs)) ∧ n = kvs.length) ∨ ∃ kvs, H d = some (.frz od (.dK kvs)) ∧ n = kvs.length) ∧ n ≤ i := by
      rcases hg with ⟨kvs, e, hi⟩ | ⟨kvs, e, hi⟩
      · exact ⟨_, .inl ⟨kvs, e, rfl⟩, hi⟩
      · exact ⟨_, .inr ⟨kvs, e, rfl⟩, hi⟩
    obtain ⟨es', ep', lo, ho, hx, hd', hsz, hk⟩ := dict_obj I hn
    rw [hdd] at hd'
    cases hd'
    obtain ⟨f0, f1, f2, f3, f4, f5⟩ := hf it (by simp)
    exact end_keys' (I.ok.hd hc) st (by omega) ho hdd fun h' eb => ⟨rfl, I.turned (t' := s.toks) (fun b o hb e => eb b o hb e) f0 f1 f3 f4 f5⟩
  self := fun _ _ _ _ _ st h => wpAny_pyIter_keyiter st h
def tupK (k : List Key) : D := .tup (k.map keyD)
def okKey : Key → Bool
  | .inl _ => true
  | .inr x => decide (x.length ≤ lim)
def keysI : D → M (List D)
  | .dct ks _ => if ks.all (fun k => decide (k.length ≤ lim) && k.all okKey) then M.ret (ks.map tupK) else M.stuck
  | .dci ks _ => if ks.all okKey then M.ret (ks.map keyD) else M.stuck
  | _ => M.stuck
theorem keyD_den {K : PySem.W.Frag} {F : Hp} {k : Key} (h : okKey k = true) : Den K F (keyD k) (kV k) := by
  cases k with
  | inl i => exact rfl
  | inr x => exact ⟨rfl, of_decide_eq_true h⟩
theorem keyDs_den {K : PySem.W.Frag} {F : Hp} : ∀ {k : List Key}, k.all okKey = true → DenL K F (k.map keyD) (k.map kV)
  | [], _ => rfl
  | x :: k, h => by
    rw [List.all_cons, Bool.and_eq_true] at h
    exact .cons (keyD_den h.1) (keyDs_den h.2)
theorem itd_keys {K : PySem.W.Frag} {F : Hp} {a : Addr} {ob : Obj} {d : D} {ds : List D} (hd : Den K F d (.ref a)) (hF : ∃ u, F a = some (.frz ob u)) (e : keysI d = M.ret ds) : ItD K F (Itd a ob) ds := fun F' H' i s1 s2 => by
  unfold keysI at e
  split at e
  · rename_i ks es
    split at e
    · rename_i hok
      obtain rfl := ret_inj e
      obtain ⟨a', ob', vs, z, h2, h3, h4, h5⟩ := hd
      cases z
      obtain ⟨u, hu⟩ := hF
      rw [h2] at hu
      cases hu
      have hh := s2 _ _ (s1 _ _ h2)
      have hz := zip_fst (a := ks) (b := vs) (by rw [h4]; exact h3.len)
      have hl : (ks.zip vs).length = ks.length := by rw [← List.length_map (f := (·.1)), hz]
      refine ⟨fun d e => ?_, fun hle => .inl ⟨_, hh, by rw [hl]; simpa using hle⟩⟩
      rw [List.getElem?_map] at e
      cases q : ks[i]? with
      | none => rw [q] at e; cases e
      | some k =>
        rw [q] at e
        cases e
        have hi := (List.getElem?_eq_some_iff.mp q).1
        refine ⟨.inl ⟨_, hh, by rw [hl]; exact hi⟩, fun x H'' ⟨y1, y2⟩ => ?_⟩
        subst y1
        have hk := List.all_eq_true.mp hok k (List.mem_of_getElem? q)
        rw [Bool.and_eq_true] at hk
        rcases y2 with ⟨kvs, k', b, q1, q2, rfl, q3⟩ | ⟨kvs, k', q1, q2, rfl⟩
        · rw [hh] at q1
          cases q1
          rw [hz, q] at q2
          cases q2
          have E := Ext.tup (F := F') s2 q3
          exact ⟨_, E, b, _, rfl, upd_same, keyDs_den hk.2, by rw [List.length_map]; exact of_decide_eq_true hk.1⟩
        · rw [hh] at q1; cases q1
    · exact (stuck_ne e).elim
  · rename_i ks es
    split at e
    · rename_i hok
      obtain rfl := ret_inj e
      obtain ⟨a', ob', vs, z, h2, h3, h4, h5⟩ := hd
      cases z
      obtain ⟨u, hu⟩ := hF
      rw [h2] at hu
      cases hu
      have hh := s2 _ _ (s1 _ _ h2)
      have hz := zip_fst (a := ks) (b := vs) (by rw [h4]; exact h3.len)
      have hl : (ks.zip vs).length = ks.length := by rw [← List.length_map (f := (·.1)), hz]
      refine ⟨fun d e => ?_, fun hle => .inr ⟨_, hh, by rw [hl]; simpa using hle⟩⟩
      rw [List.getElem?_map] at e
      cases q : ks[i]? with
      | none => rw [q] at e; cases e
      | some k =>
        rw [q] at e
        cases e
        have hi := (List.getElem?_eq_some_iff.mp q).1
        refine ⟨.inr ⟨_, hh, by rw [hl]; exact hi⟩, fun x H'' ⟨y1, y2⟩ => ?_⟩
        subst y1
        have hk := List.all_eq_true.mp hok k (List.mem_of_getElem? q)
        rcases y2 with ⟨kvs, k', b, q1, q2, rfl, q3⟩ | ⟨kvs, k', q1, q2, rfl⟩
        · rw [hh] at q1; cases q1
        · rw [hh] at q1
          cases q1
          rw [hz, q] at q2
          cases q2
          exact ⟨F', Ext.refl s2, keyD_den hk⟩
    · exact (stuck_ne e).elim
  · exact (stuck_ne e).elim
section
variable {X : Cx} {Xw : Nat → Hp → Prop} {tg l : Expr} {δ : DE}
theorem pdi_keys (h : PD X Xw l δ) : PDI X Xw tg l (fun ρ => δ ρ >>= keysI) := by
  intro pins s σ H R I ⟨F, ρ, S, w⟩
  refine thn (h pins s σ H (fun v H1 => ∃ F1 d, Ext F H F1 H1 ∧ Den X.K F1 d v ∧ WPI X.K Xw F1 H1 (keysI d) R) I ⟨F, ρ, S, WPI.bind w⟩) fun u s1 ⟨v, H1, I1, r1, F1, d, e1, q1, w1⟩ => ?_
  rcases (keysI d).cs with z | ⟨n, z⟩ | ⟨ds, z⟩
  · rw [z] at w1; exact w1.elim
  · exfalso
    unfold keysI at z
    split at z
    · split at z <;> cases z
    · split at z <;> cases z
    · cases z
  · rw [z] at w1
    obtain ⟨a, ob, u', rfl, hF, hn⟩ : ∃ a ob u', v = .ref a ∧ F1 a = some (.frz ob u') ∧ ∃ n, ((∃ kvs, H1 a = some (.frz ob (.dT kvs)) ∧ n = kvs.length) ∨ ∃ kvs, H1 a = some (.frz ob (.dK kvs)) ∧ n = kvs.length) := by
      unfold keysI at z
      split at z
      · obtain ⟨a, ob, vs, e, h2, _⟩ := q1; exact ⟨a, ob, _, e, h2, _, .inl ⟨_, e1.fh _ _ h2, rfl⟩⟩
      · obtain ⟨a, ob, vs, e, h2, _⟩ := q1; exact ⟨a, ob, _, e, h2, _, .inr ⟨_, e1.fh _ _ h2, rfl⟩⟩
      · exact (stuck_ne z).elim
    obtain ⟨n, hn⟩ := hn
    cases (show u = _ from r1)
    obtain ⟨es, ep, lo, ho, hx, hd, hsz, hk⟩ := dict_obj I1 hn
    refine iter_keys lo ho hx hd ?_
    refine ⟨s1.heap.objs.size, [s1.heap.objs.size], _, _, H1, rfl, I1.kept (t' := s1.toks) fun b o e => Heap.get?_push_of_some _ e, turn_keys a _ ob es ep hd, ⟨_, Heap.get?_push_size _ rfl, rfl, rfl⟩, fun b hb => ?_, w1 _ _ _ (Ext.refl e1.fh) (itd_keys q1 ⟨_, hF⟩ z)⟩
    have e : b = s1.heap.objs.size := by simpa using hb
    subst e
    exact I1.fpOk (Nat.le_refl _) (I1.hok.fresh (Nat.le_refl _))
end
end L3


set_option Elab.async false
set_option linter.all false
set_option maxRecDepth 100000
namespace L3
open PySem
section
variable {prog : Program} {w : World} {K : Type} [DecidableEq K] {knd : HeapKind prog w K} {A : Around} {E : Value → Shared → Prop} {s : Shared}
end
end L3


set_option Elab.async false
set_option linter.all false
set_option maxRecDepth 100000
namespace L3
open PySem PySem.Spec L2
open PyProof.Rows hiding St
section
variable {X : Cx} {pins : List (Addr × Obj)} {σ : St} {H : Hp} {s : Shared} {a b : Addr} {A : Around} {E : Value → Shared → Prop}
end
section
variable {X : Cx} {Xw : Nat → Hp → Prop} {o e f : Expr} {δ δo δe δf : DE} {pos p apos cpos : Pos} {x : Str} {i : Nat}
end
end L3


set_option Elab.async false
set_option linter.all false
set_option maxRecDepth 100000
namespace L3
open PySem PySem.Spec L2
open PyProof.Rows hiding St
section
variable {X : Cx} {Xw : Nat → Hp → Prop} {o e f : Expr} {δ δo δe δf : DE} {δs : DA} {pos p apos cpos : Pos} {x : Str} {i : Nat}
end
end L3


set_option Elab.async false
set_option linter.all false
set_option maxRecDepth 100000
namespace L3
open PySem PySem.Spec L2
open PyProof.Rows hiding St
section
variable {X : Cx} {Xw : Nat → Hp → Prop} {a b e est : Expr} {δ δa δb δs : DE} {pos p2 : Pos}
def gIsN (neg : Bool) : D → D → M D
  | .raw _, _ => M.stuck
  | .non, .non => M.ret (.bl (!neg))
  | _, .non => M.ret (.bl neg)
  | _, _ => M.stuck
theorem isN_den {K : PySem.W.Frag} {neg : Bool} {g : V → Bool} (hg : ∀ v, g v = if neg then !decide (v = .non) else decide (v = .non)) : OpD K (fun x y H Q => y = .non ∧ Q (.bl (g x)) H) (gIsN neg) := fun Xw F H x y dx dy Q s hx hy w => by
  unfold gIsN at w
  split at w
  · exact w.elim
  · refine ⟨hy, ?_⟩
    cases (show x = _ from hx)
    rw [hg]
    cases neg <;> exact WP.now w s rfl
  · rename_i h1 h2
    refine ⟨hy, ?_⟩
    have hx' : x ≠ .non := by
      rintro rfl
      cases dx with
      | raw v => exact h1 v rfl
      | non => exact h2 rfl
      | bl _ => cases (show _ = _ from hx)
      | int _ => cases (show _ = _ from hx)
      | str _ => cases (show _ = _ from hx.1)
      | exc _ => obtain ⟨_, z, _⟩ := hx; cases z
      | scr _ => obtain ⟨_, z, _⟩ := hx; cases z
      | tup _ => obtain ⟨_, _, z, _⟩ := hx; cases z
      | lst _ => obtain ⟨_, _, z, _⟩ := hx; cases z
      | dct _ _ => obtain ⟨_, _, _, z, _⟩ := hx; cases z
      | dci _ _ => obtain ⟨_, _, _, z, _⟩ := hx; cases z
    rw [hg, decide_eq_false hx']
    cases neg <;> exact WP.now w s rfl
  · exact w.elim
theorem pd_isN (ha : PD X Xw a δa) (hb : PD X Xw b δb) : PD X Xw (.Compare a [.Is] [b] pos) (d2 (gIsN false) δa δb) := pd_cmp op_isN (isN_den fun _ => rfl) ha hb
theorem pt_notN (ha : PD X Xw a δa) (hb : PD X Xw b δb) : PDT X Xw (.Compare a [.IsNot] [b] pos) (tB' (d2 (gIsN true) δa δb)) := pt_cmp' op_notN (isN_den fun _ => rfl) ha hb
theorem rv_list : RvR X (fun x H Q => ∃ a xs, x = .ref a ∧ SqL X.K H a xs ∧ ∀ p, H p = none → Q (.ref p) (upd H p (.lst xs.reverse))) := by
  intro pins s σ H x v u sl Q I rx hs ⟨a, xs, ex, hx, q⟩
  subst ex
  cases rx
  obtain ⟨its, r, ht, hz⟩ := I.list hx
  have hlen := r.length
  refine ⟨"list", _, slot_list_getitem.lookup, ht.isList.typeIs, ?_⟩
  refine wpAny_getItem_list_slice (st := some (-1)) ht.isList hs .none .none (.int _ _) (by decide) ?_ (by rw [List.size_toArray] <;> omega)
  rw [PySem.W.krv_pick]
  refine ⟨.ref s.heap.objs.size, _, I.laid (t' := s.toks) (o := .lst xs.reverse) (fun b ob q => Heap.get?_push_of_some _ q) (Nat.le_refl _) ?_, rfl, q _ (I.hok.fresh (Nat.le_refl _))⟩
  exact ⟨by rw [List.length_reverse]; exact hz, _, 0, r.reverse, Heap.get?_push_size _ rfl⟩
def revLM : D → M D
  | .lst ds => M.ret (.lst ds.reverse)
  | _ => M.stuck
def dRevL (a st : DE) : DE := fun ρ => a ρ >>= fun d => st ρ >>= fun k => match k with
  | .int i => if i = -1 then revLM d else M.stuck
  | _ => M.stuck
theorem pd_revL (he : PD X Xw e δ) (hs : PD X Xw est δs) : PD X Xw (.Subscript e (.Slice none none (some est) p2) pos) (dRevL δ δs) :=
  PE.weak (pe_rev rv_list he hs) fun σ H Q ⟨F, ρ, s, w⟩ => by
    refine ⟨F, ρ, s, WP.mono (WP.bind w) fun v H1 ⟨F1, d, e1, q1, w1⟩ => ?_⟩
    refine ⟨F1, ρ, s.ext e1, WP.mono (WP.bind w1) fun y H2 ⟨F2, k, e2, q2, w2⟩ => ?_⟩
    have q3 := Den.mono e2.ff q1
    cases k with
    | int i =>
      have w2 : WP X.K Xw F2 H2 (if i = -1 then revLM d else M.stuck) Q := w2
      split at w2
      · rename_i hi
        subst hi
        refine ⟨q2, ?_⟩
        cases d with
        | lst ds =>
          obtain ⟨a, vs, rfl, h2, h3, h4⟩ := q3
          exact ⟨a, vs, rfl, SqL.of (e2.fh _ _ h2), fun p hp => WP.fin w2 (Ext.lay e2.fh hp) ⟨p, _, rfl, upd_same, DenL.mono (Ext.lay e2.fh hp).ff h3.reverse, by rw [List.length_reverse]; exact h4⟩⟩
        | _ => exact w2.elim
      · exact w2.elim
    | _ => exact w2.elim
end
section
variable {prog : Program} {w : World} {A : Around} {E : Value → Shared → Prop} {s : Shared}
theorem draw_list {it t : Addr} {items : Array Value} (hne : t ≠ it) : ∀ (n i : Nat) (s : Shared) (Q : List Value → Shared → Prop), s.heap.IsListIter it t i → s.heap.IsList t items → i + n ≤ items.size →
    (∀ h', h'.IsListIter it t (i + n) → Heap.SameBut it s.heap h' → Q ((items.toList.drop i).take n) { s with heap := h' }) → wpAny (model prog w) A (draw (.ref it) n) Q E s
  | 0, i, s, Q, hit, _, _, hQ => by
    show wpAny _ _ (pure []) Q E s
    exact wpAny_pure (by simpa using hQ s.heap hit (Heap.SameBut.refl ..))
  | n + 1, i, s, Q, hit, ht, hle, hQ => by
    have hlt : i < items.size := by omega
    show wpAny _ _ (pyNext (.ref it) >>= _) Q E s
    refine wpAny_bind (wpAny_pyNext_list_item hit ht (x := items[i]) (by simp [hlt]) fun h₁ hit₁ hs₁ => ?_)
    refine wpAny_bind (wpAny_holding (draw_list hne n (i + 1) _ _ hit₁ (ht.extBut hs₁.extBut hne) (by omega) fun h₂ hit₂ hs₂ => wpAny_pure ?_))
    have hd : items.toList.drop i = items[i] :: items.toList.drop (i + 1) := by simp [List.drop_eq_getElem_cons, hlt]
    have := hQ h₂ (by rw [show i + (n + 1) = i + 1 + n by omega]; exact hit₂) (hs₁.trans hs₂)
    rw [hd, List.take_succ_cons] at this
    exact this
theorem unpack_list {t : Addr} {items : Array Value} {targets : List (Bool × (Value → Sem Unit))} {Q : Unit → Shared → Prop} (hh : A.handled = none) (ht : s.heap.IsList t items)
    (hn : targets.length = items.size) (hstar : targets.findIdx? (·.1) = none)
    (h : ∀ h', Heap.ExtBut s.heap.objs.size s.heap h' → wpAny (model prog w) A (assignInOrder (targets.map (·.2)) items.toList) Q E { s with heap := h' }) :
    wpAny (model prog w) A (unpack (.ref t) targets) Q E s := by
  have hlt : t ≠ s.heap.objs.size := by obtain ⟨o, ho, _⟩ := ht; exact Nat.ne_of_lt (Heap.lt_size ho)
  unfold unpack
  rw [hn, hstar]
  refine wpAny_bind (wpAny_holding ?_)
  unfold unpackItems
  refine wpAny_bind ?_
  unfold notIterableAtAll
  refine wpAny_bind (wpAny_specialOf ht.typeIs slot_list_iter.lookup ?_)
  refine wpAny_pure ?_
  simp only [Bool.false_eq_true, if_false]
  refine wpAny_bind (wpAny_holding (wpAny_pyIter_list ht ?_))
  refine wpAny_bind (wpAny_holding (draw_list hlt items.size 0 _ _ ⟨_, Heap.get?_push_size _ rfl, rfl, rfl⟩ (ht.push _) (by omega) fun h₁ hit₁ hs₁ => ?_))
  have hall : List.take items.size (List.drop 0 items.toList) = items.toList := by
    rw [List.drop_zero]; exact List.take_of_length_le (by simp)
  rw [hall, if_neg (by simp)]
  have ht₁ : h₁.IsList t items := (ht.push _).extBut hs₁.extBut hlt
  refine wpAny_bind (wpAny_holding (wpAny_pyNext_list_end hh hit₁ ht₁ (by simp) fun h₂ he₂ => ?_))
  simp only [Option.isSome_none, Bool.false_eq_true, if_false]
  exact wpAny_pure (h h₂ fun b o hb e => he₂ b o hb (hs₁.extBut b o hb (Heap.get?_push_of_some _ e)))
end
def gNames : List Nat → TGs
  | [] => gNil
  | i :: is => gCons (gName i) (gNames is)
def setAll : List Nat → List D → Rho → Rho
  | i :: is, d :: ds, ρ => setAll is ds (ρ.set i (some (.fz d)))
  | _, _, ρ => ρ
def putLs (is : List Nat) : D → Rho → Option Rho
  | .lst ds, ρ => if ds.length = is.length then some (setAll is ds ρ) else none
  | _, _ => none
theorem setAll_ok {K : PySem.W.Frag} {F₀ H₀ F H : Hp} {Q : St → Hp → Prop} : ∀ (is : List Nat) (ds : List D) (vs : List V) (σ : St) (ρ : Rho), ds.length = is.length → StOk K F₀ H₀ F H σ ρ → DenL K F ds vs → (∀ σ', StOk K F₀ H₀ F H σ' (setAll is ds ρ) → Q σ' H) → gNames is vs σ H Q
  | [], [], vs, σ, ρ, _, s, h, k => ⟨h, k σ s⟩
  | i :: is, d :: ds, vs, σ, ρ, hl, s, ⟨v, r, e, h1, h2⟩, k => by
    subst e
    exact ⟨v, r, rfl, setAll_ok is ds r _ _ (by simpa using hl) (s.set h1) h2 k⟩
  | [], _ :: _, _, _, _, hl, _, _, _ => by simp at hl
  | _ :: _, [], _, _, _, hl, _, _, _ => by simp at hl
def gLst (K : PySem.W.Frag) (n : Nat) (t : TGs) : TG := fun v σ H Q => ∃ a xs, v = .ref a ∧ SqL K H a xs ∧ xs.length = n ∧ t xs σ H Q
theorem pg_lst {X : Cx} {pos : Pos} {es : List Expr} {k : Nat} {t : TGs} {n : Nat} (hc : X.calm = true) (h : PGs X es t)
    (hn : (assignEach es X.env).length = n := by rfl) (hst : (assignEach es X.env).findIdx? (·.1) = none := by rfl) : PG X (.Tuple es k pos) (gLst X.K n t) := by
  intro pins s σ H v u Q I r hw
  obtain ⟨a, xs, e1, hq, hl, hw⟩ := hw
  subst e1
  cases r
  obtain ⟨its, rv, ht, hz⟩ := I.list hq
  rw [assign_Tuple]
  refine wpAny_bind (wpAny_standAt (unpack_list (I.ok.hd hc) ht.isList (by simp [hn, ← hl, rv.length]) hst fun h' hx => ?_))
  have I1 : Inv X pins σ H { s with heap := h' } := I.kept (t' := s.toks) fun b o e => hx b o (Nat.ne_of_lt (Heap.lt_size e)) e
  exact h pins _ σ H xs _ Q I1 (by simpa using rv) hw
theorem put_lst {K : PySem.W.Frag} {is : List Nat} : PutOk K (gLst K is.length (gNames is)) (putLs is) := fun F₀ H₀ F H σ ρ ρ' d v Q s q e k => by
  unfold putLs at e
  split at e
  · rename_i ds
    split at e
    · rename_i hl
      cases e
      obtain ⟨a, vs, rfl, hs, hd, _⟩ := q
      exact ⟨a, vs, rfl, SqL.of (s.st.fh _ _ hs), by rw [← hd.len]; exact hl, setAll_ok is ds vs σ ρ hl s hd k⟩
    · cases e
  · cases e
end L3


set_option Elab.async false
set_option linter.all false
set_option maxRecDepth 100000
namespace L3
open PySem PySem.Spec L2
open PyProof.Rows hiding St
def dTf (δ : DE) : DE := fun ρ => noex (δ (frA ρ)) >>= flatM
def tTf (τ : DT) : DT := fun ρ => noex (τ (frA ρ))
section
variable {X : Cx} {Xw : Nat → Hp → Prop} {st : Stmt} {τ : DS} {is : List Nat}
end
end L3


namespace L3
def sRz (n : Nat) (δs : DA) : DS := fun _ => M.stuck
end L3


set_option Elab.async false
set_option linter.all false
set_option maxRecDepth 100000
namespace K1
open PySem PySem.Spec L2 L3
open PyProof.Rows hiding St
def τ_is_whole : DS := (sRet (dAndV (dA isiM (aC (dV 0) (aC (dC (.raw (.ty "int"))) aN))) (dNotV (dA isiM (aC (dV 0) (aC (dC (.raw (.ty "bool"))) aN))))))
def f_is_whole : List D → M D := runD 1 (τ_is_whole)
def τ_is_letter : DS := (sRet (dAndV (dA isiM (aC (dV 0) (aC (dC (.raw (.ty "str"))) aN))) (dAndV (d2 gEq (dA lenM (aC (dV 0) aN)) (dC (.int 1))) (d2 (gInS false) (dV 0) (dC (.str "abcdef"))))))
def f_is_letter : List D → M D := runD 1 (τ_is_letter)
def τ_cells_of_row : DS := (sRet (dComp 0 (fun ρ => (aC (dA lenM (aC (d2 gIxT (dV 0) (dC (.int 0))) aN)) aN) ρ >>= rngM1) dTrue (dA mkTup (aC (dV 2) (aC (dV 0) aN)))))
def f_cells_of_row : List D → M D := runD 2 (τ_cells_of_row)
def τ_letter_of : DS := (sRet (d2 gIxS (d2 gIxT (dV 0) (d2 gIxT (dV 1) (dC (.int 0)))) (d2 gIxT (dV 1) (dC (.int 1)))))
def f_letter_of : List D → M D := runD 2 (τ_letter_of)
def τ_are_next : DS := (sSeq (sSet 3 (dA absM (aC (d2 gSub (d2 gIxT (dV 0) (dC (.int 0))) (d2 gIxT (dV 1) (dC (.int 0)))) aN))) (sSeq (sSet 4 (dA absM (aC (d2 gSub (d2 gIxT (dV 0) (dC (.int 1))) (d2 gIxT (dV 1) (dC (.int 1)))) aN))) (sSeq (sIf (tB' (d2 gEq (dV 2) (dC (.int 4)))) (sRet (d2 gEq (d2 gAdd (dV 3) (dV 4)) (dC (.int 1)))) sNil) (sRet (d2 gEq (dA maxM (aC (dV 3) (aC (dV 4) aN))) (dC (.int 1)))))))
def f_are_next : List D → M D := runD 5 (τ_are_next)
def τ_keyed : DS := (sSeq (sNewT 1) (sSeq (fun ρ => noex ((sFor (putN 2) (iAlt (dItL (dV 0)) (fun ρ => (dV 0) ρ >>= keysI)) (sFgt [2] (sPutO 1 (dV 2) (dC (.bl true))))) ρ)) (sFz 1 (sRet (dV 1)))))
def f_keyed : List D → M D := runD 3 (τ_keyed)
def τ_law_cell : DS := (sSeq (sIf (tB' (d2 gEq (dV 0) (dA mkLst aN))) (sRet (d2 gMul (dC (.int 7)) (dV 1))) sNil) (sRet (d2 gAdd (d2 gIxP (dV 0) (d2 gMod (dV 1) (dA lenM (aC (dV 0) aN)))) (d2 gMul (dC (.int 6553)) (d2 gDiv (dV 1) (dA lenM (aC (dV 0) aN)))))))
def f_law_cell : List D → M D := runD 2 (τ_law_cell)
def τ_is_row : DS := (sSeq (sIf (dOr (dNot (dTru (dA isiM (aC (dV 0) (aC (dC (.raw (.ty "str"))) aN))))) (dNot (tB' (chI (fun i j => decide (i ≤ j)) (fun i j => decide (i ≤ j)) (dC (.int 1)) (dA lenM (aC (dV 0) aN)) (dC (.int 8)))))) (sRet (dC (.bl false))) sNil) (sRet (dA allM (aC (dComp 0 (fun ρ => (dV 0) ρ >>= sgnM) dTrue (callF 1 f_is_letter (aC (dV 0) aN))) aN))))
def f_is_row : List D → M D := runD 1 (τ_is_row)
def τ_is_cell : DS := (sSeq (sIf (dOr (dNot (dTru (dA isiM (aC (dV 1) (aC (dC (.raw (.ty "tuple"))) aN))))) (tB' (d2 gNe (dA lenM (aC (dV 1) aN)) (dC (.int 2))))) (sRet (dC (.bl false))) sNil) (sSeq (sIf (dOr (dNot (dTru (callF 1 f_is_whole (aC (d2 gIxT (dV 1) (dC (.int 0))) aN)))) (dNot (dTru (callF 1 f_is_whole (aC (d2 gIxT (dV 1) (dC (.int 1))) aN))))) (sRet (dC (.bl false))) sNil) (sRet (dAndV (chI (fun i j => decide (i ≤ j)) (fun i j => decide (i < j)) (dC (.int 0)) (d2 gIxT (dV 1) (dC (.int 0))) (dA lenM (aC (dV 0) aN))) (chI (fun i j => decide (i ≤ j)) (fun i j => decide (i < j)) (dC (.int 0)) (d2 gIxT (dV 1) (dC (.int 1))) (dA lenM (aC (d2 gIxT (dV 0) (dC (.int 0))) aN)))))))
def f_is_cell : List D → M D := runD 2 (τ_is_cell)
def τ_need_ways : DS := (sIf (dOr (dNot (dTru (callF 1 f_is_whole (aC (dV 0) aN)))) (tB' (d2 (gInI true) (dV 0) (dA mkTup (aC (dC (.int 4)) (aC (dC (.int 8)) aN)))))) (sRz 1 (aC (dC (.str "ways are 4 or 8")) aN)) sNil)
def f_need_ways : List D → M D := runD 1 (τ_need_ways)
def τ_all_cells : DS := (sSeq (sNew 1) (sSeq (fun ρ => noex ((sFor (putN 2) (fun ρ => (aC (dA lenM (aC (dV 0) aN)) aN) ρ >>= rngM1) (sFgt [2] (sExt 1 (callF 2 f_cells_of_row (aC (dV 0) (aC (dV 2) aN)))))) ρ)) (sFz 1 (sRet (dV 1)))))
def f_all_cells : List D → M D := runD 3 (τ_all_cells)
def τ_next_cells : DS := (sSeq (sNew 3) (sSeq (fun ρ => noex ((sFor (putN 4) (fun ρ => (aC (dA maxM (aC (d2 gSub (d2 gIxT (dV 1) (dC (.int 0))) (dC (.int 1))) (aC (dC (.int 0)) aN))) (aC (dA minM (aC (d2 gAdd (d2 gIxT (dV 1) (dC (.int 0))) (dC (.int 2))) (aC (dA lenM (aC (dV 0) aN)) aN))) aN)) ρ >>= rngM2) (sFgt [4, 5] (sFor (putN 5) (fun ρ => (aC (dA maxM (aC (d2 gSub (d2 gIxT (dV 1) (dC (.int 1))) (dC (.int 1))) (aC (dC (.int 0)) aN))) (aC (dA minM (aC (d2 gAdd (d2 gIxT (dV 1) (dC (.int 1))) (dC (.int 2))) (aC (dA lenM (aC (d2 gIxT (dV 0) (dC (.int 0))) aN)) aN))) aN)) ρ >>= rngM2) (sFgt [5] (sIf (dTru (callF 3 f_are_next (aC (dV 1) (aC (dA mkTup (aC (dV 4) (aC (dV 5) aN))) (aC (dV 2) aN))))) (sApp 3 (dA mkTup (aC (dV 4) (aC (dV 5) aN)))) sNil))))) ρ)) (sFz 3 (sRet (dV 3)))))
def f_next_cells : List D → M D := runD 6 (τ_next_cells)
def τ_law_drawn : DS := (sSeq (sSet 3 (d2 gMod (d2 gAdd (d2 gMul (d2 gMod (callF 2 f_law_cell (aC (dV 0) (aC (dV 1) aN))) (dC (.int 2147483563))) (dC (.int 69069))) (d2 gMul (dC (.int 104723)) (d2 gAdd (dV 1) (dC (.int 1))))) (dC (.int 2147483563)))) (sSeq (sSet 3 (d2 gMod (d2 gAdd (d2 gMul (dV 3) (dV 3)) (d2 gDiv (dV 3) (dC (.int 3)))) (dC (.int 2147483399)))) (sRet (d2 gMod (d2 gDiv (d2 gMod (d2 gAdd (d2 gMul (dV 3) (dV 3)) (d2 gDiv (dV 3) (dC (.int 7)))) (dC (.int 2147483647))) (dC (.int 11))) (dV 2)))))
def f_law_drawn : List D → M D := runD 4 (τ_law_drawn)
def τ_is_board : DS := (sSeq (sIf (dOr (dNot (dTru (dA isiM (aC (dV 0) (aC (dC (.raw (.ty "tuple"))) aN))))) (dNot (tB' (chI (fun i j => decide (i ≤ j)) (fun i j => decide (i ≤ j)) (dC (.int 1)) (dA lenM (aC (dV 0) aN)) (dC (.int 8)))))) (sRet (dC (.bl false))) sNil) (sSeq (sIf (dNot (dTru (dA allM (aC (dComp 0 (dItT (dV 0)) dTrue (callF 1 f_is_row (aC (dV 0) aN))) aN)))) (sRet (dC (.bl false))) sNil) (sRet (dA allM (aC (dComp 0 (dItT (dV 0)) dTrue (d2 gEq (dA lenM (aC (dV 0) aN)) (dA lenM (aC (d2 gIxT (dV 1) (dC (.int 0))) aN)))) aN)))))
def f_is_board : List D → M D := runD 1 (τ_is_board)
def τ_is_list_of_cells : DS := (sRet (dAndV (dA isiM (aC (dV 1) (aC (dC (.raw (.ty "list"))) aN))) (dA allM (aC (dComp 0 (dItL (dV 1)) dTrue (callF 2 f_is_cell (aC (dV 1) (aC (dV 0) aN)))) aN))))
def f_is_list_of_cells : List D → M D := runD 2 (τ_is_list_of_cells)
def τ_need_cell : DS := (sIf (dNot (dTru (callF 2 f_is_cell (aC (dV 0) (aC (dV 1) aN))))) (sRz 2 (aC (dC (.str "a tuple (row, column) on the board is asked for")) aN)) sNil)
def f_need_cell : List D → M D := runD 2 (τ_need_cell)
def τ_like_cells : DS := (sSeq (sSet 3 (callF 2 f_letter_of (aC (dV 0) (aC (dV 1) aN)))) (sRet (dComp 0 (dItL (callF 3 f_next_cells (aC (dV 0) (aC (dV 1) (aC (dV 2) aN))))) (tB' (d2 gEq (callF 2 f_letter_of (aC (dV 1) (aC (dV 0) aN))) (dV 4))) (dV 0))))
def f_like_cells : List D → M D := runD 4 (τ_like_cells)
def τ_law_board : DS := (sSeq (sSet 3 (d2 gAdd (dC (.int 1)) (callF 3 f_law_drawn (aC (dV 0) (aC (dV 1) (aC (dV 2) aN)))))) (sSeq (sSet 4 (d2 gAdd (dC (.int 1)) (callF 3 f_law_drawn (aC (dV 0) (aC (d2 gAdd (dV 1) (dC (.int 1))) (aC (dV 2) aN)))))) (sSeq (sSet 5 (d2 gIxL (dA mkLst (aC (dC (.str "ab")) (aC (dC (.str "abc")) (aC (dC (.str "aab")) (aC (dC (.str "fa")) aN))))) (callF 3 f_law_drawn (aC (dV 0) (aC (d2 gAdd (dV 1) (dC (.int 2))) (aC (dC (.int 4)) aN)))))) (sSeq (sSet 6 (dA mkTup aN)) (sSeq (fun ρ => noex ((sFor (putN 7) (fun ρ => (aC (dV 3) aN) ρ >>= rngM1) (sFgt [7, 8] (sSeq (sSet 8 (dComp 0 (fun ρ => (aC (dV 4) aN) ρ >>= rngM1) dTrue (d2 gIxS (dV 6) (callF 3 f_law_drawn (aC (dV 1) (aC (d2 gAdd (d2 gAdd (d2 gAdd (dV 2) (dC (.int 3))) (d2 gMul (dC (.int 7)) (dV 8))) (dV 0)) (aC (dA lenM (aC (dV 6) aN)) aN))))))) (sSet 6 (d2 gCatT (dV 6) (dA mkTup (aC (dM isS joinM (dC (.str "")) (aC (dV 8) aN)) aN))))))) ρ)) (sRet (dV 6)))))))
def f_law_board : List D → M D := runD 9 (τ_law_board)
def τ_need_board : DS := (sIf (dNot (dTru (callF 1 f_is_board (aC (dV 0) aN)))) (sRz 0 (aC (dC (.str "a tuple of 1 to 8 texts of 1 to 8 letters, all as long, is asked for")) aN)) sNil)
def f_need_board : List D → M D := runD 1 (τ_need_board)
def τ_steps_back : DS := (sSeq (sNewF 3 (fun ρ => (dV 1) ρ >>= fun x => (dC .non) ρ >>= fun y => dispT x y)) (sSeq (sSet 4 (dA mkLst (aC (dV 1) aN))) (sSeq (fun ρ => noex ((sWhile (dTru (dV 4)) (sFgt [5, 6, 7] (sSeq (sNew 5) (sSeq (sFor (putN 6) (dItL (dV 4)) (sFgt [6, 7] (sFor (putN 7) (dItL (callF 3 f_like_cells (aC (dV 0) (aC (dV 6) (aC (dV 2) aN))))) (sFgt [7] (sIf (tTf (tB' (d2 (gInD true) (dV 7) (dV 3)))) (sSeq (sPutO 3 (dV 7) (dV 6)) (sApp 5 (dV 7))) sNil))))) (sFz 5 (sSet 4 (dV 5))))))) ρ)) (sFz 3 (sRet (dV 3))))))
def f_steps_back : List D → M D := runD 8 (τ_steps_back)
def τ_cells : DS := (sSeq (sExp (callF 1 f_need_board (aC (dV 0) aN))) (sRet (callF 1 f_all_cells (aC (dV 0) aN))))
def f_cells : List D → M D := runD 1 (τ_cells)
def τ_need_two_cells : DS := (sSeq (sExp (callF 1 f_need_board (aC (dV 0) aN))) (sSeq (sExp (callF 1 f_need_ways (aC (dV 1) aN))) (sSeq (sExp (callF 2 f_need_cell (aC (dV 0) (aC (dV 2) aN)))) (sExp (callF 2 f_need_cell (aC (dV 0) (aC (dV 3) aN)))))))
def f_need_two_cells : List D → M D := runD 4 (τ_need_two_cells)
def τ_patch_of : DS := (sSeq (sExp (callF 1 f_need_board (aC (dV 0) aN))) (sSeq (sExp (callF 2 f_need_cell (aC (dV 0) (aC (dV 1) aN)))) (sSeq (sExp (callF 1 f_need_ways (aC (dV 2) aN))) (sRet (dA srtDM (aC (callF 3 f_steps_back (aC (dV 0) (aC (dV 1) (aC (dV 2) aN)))) aN))))))
def f_patch_of : List D → M D := runD 3 (τ_patch_of)
def τ_are_one : DS := (sSeq (sExp (callF 4 f_need_two_cells (aC (dV 0) (aC (dV 1) (aC (dV 2) (aC (dV 3) aN)))))) (sRet (d2 (gInD false) (dV 3) (callF 3 f_steps_back (aC (dV 0) (aC (dV 2) (aC (dV 1) aN)))))))
def f_are_one : List D → M D := runD 4 (τ_are_one)
def τ_way : DS := (sSeq (sExp (callF 4 f_need_two_cells (aC (dV 0) (aC (dV 1) (aC (dV 2) (aC (dV 3) aN)))))) (sSeq (sSet 4 (callF 3 f_steps_back (aC (dV 0) (aC (dV 3) (aC (dV 1) aN))))) (sSeq (sIf (tB' (d2 (gInD true) (dV 2) (dV 4))) (sRet (dC .non)) sNil) (sSeq (sNewF 5 (fun ρ => (aC (dV 2) aN) ρ >>= mkC)) (sSeq (fun ρ => noex ((sWhile (tTf (tB' (d2 gNe (d2 gIxL (dV 5) (d1 negM (dC (.int 1)))) (dV 3)))) (sApp 5 (dTf (d2 gIxD (dV 4) (d2 gIxL (dV 5) (d1 negM (dC (.int 1)))))))) ρ)) (sFz 5 (sRet (dV 5))))))))
def f_way : List D → M D := runD 6 (τ_way)
def τ_is_way : DS := (sSeq (sExp (callF 4 f_need_two_cells (aC (dV 0) (aC (dV 1) (aC (dV 2) (aC (dV 3) aN)))))) (sSeq (sIf (dOr (dNot (dTru (callF 2 f_is_list_of_cells (aC (dV 0) (aC (dV 4) aN))))) (tB' (d2 gEq (dA lenM (aC (dV 4) aN)) (dC (.int 0))))) (sRet (dC (.bl false))) sNil) (sSeq (sIf (dOr (tB' (d2 gNe (d2 gIxL (dV 4) (dC (.int 0))) (dV 2))) (tB' (d2 gNe (d2 gIxL (dV 4) (d1 negM (dC (.int 1)))) (dV 3)))) (sRet (dC (.bl false))) sNil) (sSeq (sSet 5 (callF 2 f_letter_of (aC (dV 0) (aC (dV 2) aN)))) (sSeq (sIf (dNot (dTru (dA allM (aC (dComp 0 (dItL (dV 4)) dTrue (d2 gEq (callF 2 f_letter_of (aC (dV 1) (aC (dV 0) aN))) (dV 6))) aN)))) (sRet (dC (.bl false))) sNil) (sRet (dA allM (aC (dComp 0 (fun ρ => (aC (dC (.int 1)) (aC (dA lenM (aC (dV 4) aN)) aN)) ρ >>= rngM2) dTrue (callF 3 f_are_next (aC (d2 gIxL (dV 5) (d2 gSub (dV 0) (dC (.int 1)))) (aC (d2 gIxL (dV 5) (dV 0)) (aC (dV 2) aN))))) aN))))))))
def f_is_way : List D → M D := runD 6 (τ_is_way)
def τ_is_fence : DS := (sSeq (sExp (callF 4 f_need_two_cells (aC (dV 0) (aC (dV 1) (aC (dV 2) (aC (dV 3) aN)))))) (sSeq (sIf (dNot (dTru (callF 2 f_is_list_of_cells (aC (dV 0) (aC (dV 4) aN))))) (sRet (dC (.bl false))) sNil) (sSeq (sSet 5 (callF 1 f_keyed (aC (dV 4) aN))) (sSeq (sIf (dOr (tB' (d2 (gInD true) (dV 2) (dV 5))) (tB' (d2 (gInD false) (dV 3) (dV 5)))) (sRet (dC (.bl false))) sNil) (sSeq (fun ρ => noex ((sFor (putN 6) (fun ρ => (dV 5) ρ >>= keysI) (sFgt [6] (sIf (dNot (dTru (dA allM (aC (dComp 0 (dItL (callF 3 f_like_cells (aC (dV 0) (aC (dV 6) (aC (dV 1) aN))))) dTrue (d2 (gInD false) (dV 0) (dV 6))) aN)))) (sRet (dC (.bl false))) sNil))) ρ)) (sRet (dC (.bl true))))))))
def f_is_fence : List D → M D := runD 7 (τ_is_fence)
end K1


set_option Elab.async false
set_option linter.all false
set_option maxRecDepth 100000
namespace K1
open PySem PySem.Spec L2 L3
open PyProof.Rows hiding St
def τ_law_k21_0 : DS := (sSet 1 (callF 3 f_law_board (aC (dV 0) (aC (dC (.int 0)) (aC (dC (.int 5)) aN)))))
def τ_law_k21_1 : DS := (sSet 2 (callF 1 f_cells (aC (dV 1) aN)))
def τ_law_k21_2 : DS := (sAsg (putLs [3, 4, 5]) (dComp 0 (fun ρ => (aC (dC (.int 3)) aN) ρ >>= rngM1) dTrue (d2 gIxL (dV 3) (callF 3 f_law_drawn (aC (dV 1) (aC (d2 gAdd (dC (.int 50)) (dV 0)) (aC (dA lenM (aC (dV 3) aN)) aN)))))))
def τ_law_k21_3 : DS := (fun ρ => noex ((sFor (putN 6) (dItT (dA mkTup (aC (dC (.int 4)) (aC (dC (.int 8)) aN)))) (sFgt [6, 7, 8, 9, 10, 11, 12, 13, 14] (sSeq (sSet 7 (callF 4 f_way (aC (dV 1) (aC (dV 6) (aC (dV 3) (aC (dV 4) aN)))))) (sSeq (sSet 8 (callF 3 f_patch_of (aC (dV 1) (aC (dV 3) (aC (dV 6) aN))))) (sSeq (sIf (tB' (d2 gNe (callF 5 f_is_fence (aC (dV 1) (aC (dV 6) (aC (dV 3) (aC (dV 4) (aC (dV 8) aN)))))) (d2 (gIsN false) (dV 7) (dC .non)))) (sRet (dC (.bl false))) sNil) (sSeq (sIf (tB' (d2 gEq (d2 (gIsN false) (dV 7) (dC .non)) (callF 4 f_are_one (aC (dV 1) (aC (dV 6) (aC (dV 3) (aC (dV 4) aN))))))) (sRet (dC (.bl false))) sNil) (sSeq (sIf (dTru (callF 5 f_is_fence (aC (dV 1) (aC (dV 6) (aC (dV 3) (aC (dV 4) (aC (dV 2) aN))))))) (sRet (dC (.bl false))) sNil) (sSeq (sIf (tB' (d2 gNe (callF 4 f_are_one (aC (dV 1) (aC (dV 6) (aC (dV 4) (aC (dV 3) aN))))) (callF 4 f_are_one (aC (dV 1) (aC (dV 6) (aC (dV 3) (aC (dV 4) aN))))))) (sRet (dC (.bl false))) sNil) (sSeq (sIf (dOr (dNot (dTru (callF 5 f_is_way (aC (dV 1) (aC (dV 6) (aC (dV 3) (aC (dV 3) (aC (dA mkLst (aC (dV 3) aN)) aN)))))))) (tB' (d2 gNe (callF 4 f_way (aC (dV 1) (aC (dV 6) (aC (dV 3) (aC (dV 3) aN))))) (dA mkLst (aC (dV 3) aN))))) (sRet (dC (.bl false))) sNil) (sSeq (sSet 9 (dIf (tB' (d2 (gIsN true) (dV 7) (dC .non))) (dV 4) (dV 3))) (sSeq (sSet 10 (dIf (tB' (d2 (gIsN true) (dV 7) (dC .non))) (dV 7) (dA mkLst (aC (dV 3) aN)))) (sSeq (sSet 11 (callF 4 f_way (aC (dV 1) (aC (dV 6) (aC (dV 9) (aC (dV 3) aN)))))) (sSeq (sIf (dOr (tB' (d2 gNe (dA lenM (aC (dV 11) aN)) (dA lenM (aC (dV 10) aN)))) (dNot (dTru (callF 5 f_is_way (aC (dV 1) (aC (dV 6) (aC (dV 3) (aC (dV 9) (aC (dRevL (dV 11) (d1 negM (dC (.int 1)))) aN))))))))) (sRet (dC (.bl false))) sNil) (sSeq (sIf (dOr (dNot (dTru (callF 5 f_is_way (aC (dV 1) (aC (dC (.int 8)) (aC (dV 3) (aC (dV 9) (aC (dV 10) aN)))))))) (tB' (d2 gNe (dComp 0 (dItL (dV 10)) (tB' (d2 (gInT true) (dV 0) (dV 9))) (dV 0)) (dA mkLst aN)))) (sRet (dC (.bl false))) sNil) (sSeq (sSet 12 (callF 4 f_way (aC (dV 1) (aC (dV 6) (aC (dV 9) (aC (dV 5) aN)))))) (sIf (tB' (d2 (gIsN true) (dV 12) (dC .non))) (sSeq (sSet 13 (d2 gCatL (dV 10) (dSl (dV 12) (oS (dC (.int 1))) oN))) (sSeq (sSet 14 (callF 4 f_way (aC (dV 1) (aC (dV 6) (aC (dV 3) (aC (dV 5) aN)))))) (sIf (dOr (dNot (dTru (callF 5 f_is_way (aC (dV 1) (aC (dV 6) (aC (dV 3) (aC (dV 5) (aC (dV 13) aN)))))))) (tB' (d2 gGt (dA lenM (aC (dV 14) aN)) (dA lenM (aC (dV 13) aN))))) (sRet (dC (.bl false))) sNil))) sNil)))))))))))))))) ρ))
def τ_law_k21_4 : DS := (sSet 15 (callF 4 f_way (aC (dV 1) (aC (dC (.int 4)) (aC (dV 3) (aC (dV 4) aN))))))
def τ_law_k21_5 : DS := (sRet (dOrV (d2 (gIsN false) (dV 15) (dC .non)) (d2 gLe (dA lenM (aC (callF 4 f_way (aC (dV 1) (aC (dC (.int 8)) (aC (dV 3) (aC (dV 4) aN))))) aN)) (dA lenM (aC (dV 15) aN)))))
def τ_law_k21 : DS := (sSeq τ_law_k21_0 (sSeq τ_law_k21_1 (sSeq τ_law_k21_2 (sSeq τ_law_k21_3 (sSeq τ_law_k21_4 τ_law_k21_5)))))
def f_law_k21 : List D → M D := runD 16 τ_law_k21
end K1


set_option Elab.async false
set_option linter.all false
set_option maxRecDepth 100000
namespace K1
open PySem PySem.Spec L2 L3
open PyProof.Rows hiding St
def top (i : Nat) : Stmt := PySem.Challenge.pw_cellpatches_k21_whole_ways.main.body.getD i (.Pass ⟨0, 0, 0, 0⟩)
structure Bl (K : PySem.W.Frag) (mg : Str → Option Value) (base : Heap) (cv : Nat → Value) (cA : Nat → Addr) (Cp : Addr) : Prop where
  len : mg "len" = none
  isinstance : mg "isinstance" = none
  all : mg "all" = none
  abs : mg "abs" = none
  max : mg "max" = none
  min : mg "min" = none
  range : mg "range" = none
  str : mg "str" = none
  int : mg "int" = none
  bool : mg "bool" = none
  tuple : mg "tuple" = none
  list : mg "list" = none
  sorted : mg "sorted" = none
  LETTERS : ∃ t, mg "LETTERS" = some (.str "abcdef" t)
  MOST_ROWS : ∃ t, mg "MOST_ROWS" = some (.int 8 t)
  MOST_COLUMNS : ∃ t, mg "MOST_COLUMNS" = some (.int 8 t)
section
variable {P : Program} {w : World} {K : PySem.W.Frag} {mg : Str → Option Value} {base : Heap} {cv : Nat → Value} {cA : Nat → Addr} {Cp : Addr} {f : Addr}
abbrev s_is_whole : Stmt := top 9
def n_is_whole : List Str := ["thing"]
def p_is_whole : List Str := ["thing"]
theorem sc_is_whole : FnScope n_is_whole p_is_whole (defScope s_is_whole) := ⟨rfl, rfl, rfl, by decide +kernel, rfl, by decide +kernel, by decide +kernel⟩
theorem ok_is_whole (B : Bl K mg base cv cA Cp)  (T : DefAt K mg "is_whole" s_is_whole f) : CallOk P w K mg base cv 1 "is_whole" 1 (f_is_whole) :=
  callOk_of (N := n_is_whole) (ps := p_is_whole) T sc_is_whole (fun _ _ _ _ _ _ us hl => match us, hl with | [_], _ => rfl) fun cdv A outer s H E hr =>
    (psd_one (psd_ret (pd_and (pd_isi rfl B.isinstance rfl (pda_cons (pd_var (pv 0)) (pda_cons (pd_ty rfl B.int rfl) pda_nil))) (pd_one (pd_not (pd_isi rfl B.isinstance rfl (pda_cons (pd_var (pv 0)) (pda_cons (pd_ty rfl B.bool rfl) pda_nil))))))))
abbrev s_is_letter : Stmt := top 10
def n_is_letter : List Str := ["thing"]
def p_is_letter : List Str := ["thing"]
theorem sc_is_letter : FnScope n_is_letter p_is_letter (defScope s_is_letter) := ⟨rfl, rfl, rfl, by decide +kernel, rfl, by decide +kernel, by decide +kernel⟩
theorem ok_is_letter (B : Bl K mg base cv cA Cp)  (T : DefAt K mg "is_letter" s_is_letter f) : CallOk P w K mg base cv 1 "is_letter" 1 (f_is_letter) :=
  callOk_of (N := n_is_letter) (ps := p_is_letter) T sc_is_letter (fun _ _ _ _ _ _ us hl => match us, hl with | [_], _ => rfl) fun cdv A outer s H E hr =>
    (psd_one (psd_ret (pd_and (pd_isi rfl B.isinstance rfl (pda_cons (pd_var (pv 0)) (pda_cons (pd_ty rfl B.str rfl) pda_nil))) (pd_and (pd_eq hr.units (pd_len rfl B.len (pda_cons (pd_var (pv 0)) pda_nil)) pd_int) (pd_one (pd_inS (pd_var (pv 0)) (pd_strG rfl B.LETTERS (by decide))))))))
abbrev s_cells_of_row : Stmt := top 18
def n_cells_of_row : List Str := ["board", "row"]
def p_cells_of_row : List Str := ["board", "row"]
theorem sc_cells_of_row : FnScope n_cells_of_row p_cells_of_row (defScope s_cells_of_row) := ⟨rfl, rfl, rfl, by decide +kernel, rfl, by decide +kernel, by decide +kernel⟩
theorem ok_cells_of_row (B : Bl K mg base cv cA Cp)  (T : DefAt K mg "cells_of_row" s_cells_of_row f) : CallOk P w K mg base cv 1 "cells_of_row" 2 (f_cells_of_row) :=
  callOk_of (N := n_cells_of_row) (ps := p_cells_of_row) T sc_cells_of_row (fun _ _ _ _ _ _ us hl => match us, hl with | [_, _], _ => rfl) fun cdv A outer s H E hr =>
    (psd_one (psd_ret (pd_comp (tn := ["column"]) (n := 0) (compSc_of (N := n_cells_of_row) (osc := (defScope s_cells_of_row)) rfl rfl (by decide +kernel)) rfl rfl (pdi_range1 rfl B.range (pda_cons (pd_len rfl B.len (pda_cons (pd_ixT (pd_var (pv 0)) pd_int) pda_nil)) pda_nil)) (fun _ _ _ _ _ _ _ => tg_name (show List.Nodup (((["column"] : List Str)) ++ hideN ["column"] n_cells_of_row) by decide +kernel) rfl rfl) (fun _ _ _ _ _ _ => test_nil) (fun _ _ _ _ _ _ => (pd_tup (pda_cons (pd_var (pv 2)) (pda_cons (pd_var (pv 0)) pda_nil)))))))
abbrev s_letter_of : Stmt := top 20
def n_letter_of : List Str := ["board", "cell"]
def p_letter_of : List Str := ["board", "cell"]
theorem sc_letter_of : FnScope n_letter_of p_letter_of (defScope s_letter_of) := ⟨rfl, rfl, rfl, by decide +kernel, rfl, by decide +kernel, by decide +kernel⟩
theorem ok_letter_of (B : Bl K mg base cv cA Cp)  (T : DefAt K mg "letter_of" s_letter_of f) : CallOk P w K mg base cv 1 "letter_of" 2 (f_letter_of) :=
  callOk_of (N := n_letter_of) (ps := p_letter_of) T sc_letter_of (fun _ _ _ _ _ _ us hl => match us, hl with | [_, _], _ => rfl) fun cdv A outer s H E hr =>
    (psd_one (psd_ret (pd_ixS (pd_ixT (pd_var (pv 0)) (pd_ixT (pd_var (pv 1)) pd_int)) (pd_ixT (pd_var (pv 1)) pd_int))))
abbrev s_are_next : Stmt := top 21
def n_are_next : List Str := ["one", "other", "ways", "down", "along"]
def p_are_next : List Str := ["one", "other", "ways"]
theorem sc_are_next : FnScope n_are_next p_are_next (defScope s_are_next) := ⟨rfl, rfl, rfl, by decide +kernel, rfl, by decide +kernel, by decide +kernel⟩
theorem ok_are_next (B : Bl K mg base cv cA Cp)  (T : DefAt K mg "are_next" s_are_next f) : CallOk P w K mg base cv 1 "are_next" 3 (f_are_next) :=
  callOk_of (N := n_are_next) (ps := p_are_next) T sc_are_next (fun _ _ _ _ _ _ us hl => match us, hl with | [_, _, _], _ => rfl) fun cdv A outer s H E hr =>
    (psd_cons (psd_set sc_are_next.nd rfl (by first | exact .inl rfl | exact .inr rfl) (pd_abs rfl B.abs (pda_cons (pd_sub (pd_ixT (pd_var (pv 0)) pd_int) (pd_ixT (pd_var (pv 1)) pd_int)) pda_nil) rfl)) (psd_cons (psd_set sc_are_next.nd rfl (by first | exact .inl rfl | exact .inr rfl) (pd_abs rfl B.abs (pda_cons (pd_sub (pd_ixT (pd_var (pv 0)) pd_int) (pd_ixT (pd_var (pv 1)) pd_int)) pda_nil) rfl)) (psd_cons (psd_if (pt_eq hr.units (pd_var (pv 2)) pd_int) (psd_one (psd_ret (pd_eq hr.units (pd_add (pd_var (pv 3)) (pd_var (pv 4))) pd_int))) psd_nil) (psd_one (psd_ret (pd_eq hr.units (pd_max rfl rfl B.max rfl (pda_cons (pd_var (pv 3)) (pda_cons (pd_var (pv 4)) pda_nil))) pd_int))))))
abbrev s_keyed : Stmt := top 23
def n_keyed : List Str := ["things", "found", "thing"]
def p_keyed : List Str := ["things"]
theorem sc_keyed : FnScope n_keyed p_keyed (defScope s_keyed) := ⟨rfl, rfl, rfl, by decide +kernel, rfl, by decide +kernel, by decide +kernel⟩
theorem ok_keyed (B : Bl K mg base cv cA Cp)  (T : DefAt K mg "keyed" s_keyed f) : CallOk P w K mg base cv 1 "keyed" 1 (f_keyed) :=
  callOk_of (N := n_keyed) (ps := p_keyed) T sc_keyed (fun _ _ _ _ _ _ us hl => match us, hl with | [_], _ => rfl) fun cdv A outer s H E hr =>
    (psd_cons (psd_newT sc_keyed.nd rfl (by first | exact .inl rfl | exact .inr rfl)) (psd_cons (psd_nox (psd_for PassesOwn.never rfl (pdi_alt (pdi_list (pd_var (pv 0))) (pdi_keys (pd_var (pv 0)))) (pg_name sc_keyed.nd rfl (by first | exact .inl rfl | exact .inr rfl)) put_name (psd_fgts (psd_one (psd_putO hr.units (pv 1) (pd_var (pv 2)) pd_bl))))) (psd_one (psd_frz (i := 1) (psd_ret (pd_var (pv 1)))))))
abbrev s_law_cell : Stmt := top 35
def n_law_cell : List Str := ["_law_script", "_law_k"]
def p_law_cell : List Str := ["_law_script", "_law_k"]
theorem sc_law_cell : FnScope n_law_cell p_law_cell (defScope s_law_cell) := ⟨rfl, rfl, rfl, by decide +kernel, rfl, by decide +kernel, by decide +kernel⟩
theorem ok_law_cell (B : Bl K mg base cv cA Cp)  (T : DefAt K mg "_law_cell" s_law_cell f) : CallOk P w K mg base cv 1 "_law_cell" 2 (f_law_cell) :=
  callOk_of (N := n_law_cell) (ps := p_law_cell) T sc_law_cell (fun _ _ _ _ _ _ us hl => match us, hl with | [_, _], _ => rfl) fun cdv A outer s H E hr =>
    (psd_cons (psd_if (pt_eq hr.units (pd_var (pv 0)) (pd_lst pda_nil)) (psd_one (psd_ret (pd_mul pd_int (pd_var (pv 1))))) psd_nil) (psd_one (psd_ret (pd_add (pd_ixP (pd_var (pv 0)) (pd_mod (pd_var (pv 1)) (pd_len rfl B.len (pda_cons (pd_var (pv 0)) pda_nil)))) (pd_mul pd_int (pd_div (pd_var (pv 1)) (pd_len rfl B.len (pda_cons (pd_var (pv 0)) pda_nil))))))))
abbrev s_is_row : Stmt := top 11
def n_is_row : List Str := ["thing"]
def p_is_row : List Str := ["thing"]
theorem sc_is_row : FnScope n_is_row p_is_row (defScope s_is_row) := ⟨rfl, rfl, rfl, by decide +kernel, rfl, by decide +kernel, by decide +kernel⟩
theorem ok_is_row (B : Bl K mg base cv cA Cp) (c_is_letter : CallOk P w K mg base cv 1 "is_letter" 1 f_is_letter) (T : DefAt K mg "is_row" s_is_row f) : CallOk P w K mg base cv 2 "is_row" 1 (f_is_row) :=
  callOk_of (N := n_is_row) (ps := p_is_row) T sc_is_row (fun _ _ _ _ _ _ us hl => match us, hl with | [_], _ => rfl) fun cdv A outer s H E hr =>
    (psd_cons (psd_if (PDW.t (pdw_or (pdt_not (pdt_tru (pd_isi rfl B.isinstance rfl (pda_cons (pd_var (pv 0)) (pda_cons (pd_ty rfl B.str rfl) pda_nil))))) (pdw_or1 (pdt_not (pt_chI op_le op_le pd_int (pd_len rfl B.len (pda_cons (pd_var (pv 0)) pda_nil)) (pd_intG rfl B.MOST_COLUMNS)))))) (psd_one (psd_ret pd_bl)) psd_nil) (psd_one (psd_ret (pd_all rfl rfl B.all rfl (pda_cons (pd_comp (tn := ["sign"]) (n := 0) (compSc_of (N := n_is_row) (osc := (defScope s_is_row)) rfl rfl (by decide +kernel)) rfl rfl (pdi_str (pd_var (pv 0))) (fun _ _ _ _ _ _ _ => tg_name (show List.Nodup (((["sign"] : List Str)) ++ hideN ["sign"] n_is_row) by decide +kernel) rfl rfl) (fun _ _ _ _ _ _ => test_nil) (fun _ _ _ _ _ _ => (pd_c c_is_letter (hr.mono (by decide)) rfl passF (pda_cons (pd_var (pv 0)) pda_nil) rfl))) pda_nil)))))
abbrev s_is_cell : Stmt := top 13
def n_is_cell : List Str := ["board", "thing"]
def p_is_cell : List Str := ["board", "thing"]
theorem sc_is_cell : FnScope n_is_cell p_is_cell (defScope s_is_cell) := ⟨rfl, rfl, rfl, by decide +kernel, rfl, by decide +kernel, by decide +kernel⟩
theorem ok_is_cell (B : Bl K mg base cv cA Cp) (c_is_whole : CallOk P w K mg base cv 1 "is_whole" 1 f_is_whole) (T : DefAt K mg "is_cell" s_is_cell f) : CallOk P w K mg base cv 2 "is_cell" 2 (f_is_cell) :=
  callOk_of (N := n_is_cell) (ps := p_is_cell) T sc_is_cell (fun _ _ _ _ _ _ us hl => match us, hl with | [_, _], _ => rfl) fun cdv A outer s H E hr =>
    (psd_cons (psd_if (PDW.t (pdw_or (pdt_not (pdt_tru (pd_isi rfl B.isinstance rfl (pda_cons (pd_var (pv 1)) (pda_cons (pd_ty rfl B.tuple rfl) pda_nil))))) (pdw_or1 (pt_ne hr.units (pd_len rfl B.len (pda_cons (pd_var (pv 1)) pda_nil)) pd_int)))) (psd_one (psd_ret pd_bl)) psd_nil) (psd_cons (psd_if (PDW.t (pdw_or (pdt_not (pdt_tru (pd_c c_is_whole (hr.mono (by decide)) rfl pass1 (pda_cons (pd_ixT (pd_var (pv 1)) pd_int) pda_nil) rfl))) (pdw_or1 (pdt_not (pdt_tru (pd_c c_is_whole (hr.mono (by decide)) rfl pass1 (pda_cons (pd_ixT (pd_var (pv 1)) pd_int) pda_nil) rfl)))))) (psd_one (psd_ret pd_bl)) psd_nil) (psd_one (psd_ret (pd_and (pd_chI op_le op_lt pd_int (pd_ixT (pd_var (pv 1)) pd_int) (pd_len rfl B.len (pda_cons (pd_var (pv 0)) pda_nil))) (pd_one (pd_chI op_le op_lt pd_int (pd_ixT (pd_var (pv 1)) pd_int) (pd_len rfl B.len (pda_cons (pd_ixT (pd_var (pv 0)) pd_int) pda_nil)))))))))
abbrev s_need_ways : Stmt := top 17
def n_need_ways : List Str := ["thing"]
def p_need_ways : List Str := ["thing"]
theorem sc_need_ways : FnScope n_need_ways p_need_ways (defScope s_need_ways) := ⟨rfl, rfl, rfl, by decide +kernel, rfl, by decide +kernel, by decide +kernel⟩
theorem ok_need_ways (B : Bl K mg base cv cA Cp) (c_is_whole : CallOk P w K mg base cv 1 "is_whole" 1 f_is_whole) (T : DefAt K mg "need_ways" s_need_ways f) : CallOk P w K mg base cv 2 "need_ways" 1 (f_need_ways) :=
  callOk_of (N := n_need_ways) (ps := p_need_ways) T sc_need_ways (fun _ _ _ _ _ _ us hl => match us, hl with | [_], _ => rfl) fun cdv A outer s H E hr =>
    (psd_one (psd_if (PDW.t (pdw_or (pdt_not (pdt_tru (pd_c c_is_whole (hr.mono (by decide)) rfl pass1 (pda_cons (pd_var (pv 0)) pda_nil) rfl))) (pdw_or1 (pt_notinI (pd_var (pv 0)) (pd_tup (pda_cons pd_int (pda_cons pd_int pda_nil))))))) (psd_one psd_stuck) psd_nil))
abbrev s_all_cells : Stmt := top 19
def n_all_cells : List Str := ["board", "found", "row"]
def p_all_cells : List Str := ["board"]
theorem sc_all_cells : FnScope n_all_cells p_all_cells (defScope s_all_cells) := ⟨rfl, rfl, rfl, by decide +kernel, rfl, by decide +kernel, by decide +kernel⟩
theorem ok_all_cells (B : Bl K mg base cv cA Cp) (c_cells_of_row : CallOk P w K mg base cv 1 "cells_of_row" 2 f_cells_of_row) (T : DefAt K mg "all_cells" s_all_cells f) : CallOk P w K mg base cv 2 "all_cells" 1 (f_all_cells) :=
  callOk_of (N := n_all_cells) (ps := p_all_cells) T sc_all_cells (fun _ _ _ _ _ _ us hl => match us, hl with | [_], _ => rfl) fun cdv A outer s H E hr =>
    (psd_cons (psd_new sc_all_cells.nd rfl (by first | exact .inl rfl | exact .inr rfl)) (psd_cons (psd_nox (psd_for PassesOwn.never rfl (pdi_range1 rfl B.range (pda_cons (pd_len rfl B.len (pda_cons (pd_var (pv 0)) pda_nil)) pda_nil)) (pg_name sc_all_cells.nd rfl (by first | exact .inl rfl | exact .inr rfl)) put_name (psd_fgts (psd_one (psd_ext (pv 1) (pd_c c_cells_of_row (hr.mono (by decide)) rfl passF (pda_cons (pd_var (pv 0)) (pda_cons (pd_var (pv 2)) pda_nil)) rfl)))))) (psd_one (psd_frz (i := 1) (psd_ret (pd_var (pv 1)))))))
abbrev s_next_cells : Stmt := top 22
def n_next_cells : List Str := ["board", "cell", "ways", "found", "row", "column"]
def p_next_cells : List Str := ["board", "cell", "ways"]
theorem sc_next_cells : FnScope n_next_cells p_next_cells (defScope s_next_cells) := ⟨rfl, rfl, rfl, by decide +kernel, rfl, by decide +kernel, by decide +kernel⟩
theorem ok_next_cells (B : Bl K mg base cv cA Cp) (c_are_next : CallOk P w K mg base cv 1 "are_next" 3 f_are_next) (T : DefAt K mg "next_cells" s_next_cells f) : CallOk P w K mg base cv 2 "next_cells" 3 (f_next_cells) :=
  callOk_of (N := n_next_cells) (ps := p_next_cells) T sc_next_cells (fun _ _ _ _ _ _ us hl => match us, hl with | [_, _, _], _ => rfl) fun cdv A outer s H E hr =>
    (psd_cons (psd_new sc_next_cells.nd rfl (by first | exact .inl rfl | exact .inr rfl)) (psd_cons (psd_nox (psd_for PassesOwn.never rfl (pdi_range2 rfl B.range (pda_cons (pd_max rfl rfl B.max rfl (pda_cons (pd_sub (pd_ixT (pd_var (pv 1)) pd_int) pd_int) (pda_cons pd_int pda_nil))) (pda_cons (pd_min rfl rfl B.min rfl (pda_cons (pd_add (pd_ixT (pd_var (pv 1)) pd_int) pd_int) (pda_cons (pd_len rfl B.len (pda_cons (pd_var (pv 0)) pda_nil)) pda_nil))) pda_nil))) (pg_name sc_next_cells.nd rfl (by first | exact .inl rfl | exact .inr rfl)) put_name (psd_fgts (psd_one (psd_for PassesOwn.never rfl (pdi_range2 rfl B.range (pda_cons (pd_max rfl rfl B.max rfl (pda_cons (pd_sub (pd_ixT (pd_var (pv 1)) pd_int) pd_int) (pda_cons pd_int pda_nil))) (pda_cons (pd_min rfl rfl B.min rfl (pda_cons (pd_add (pd_ixT (pd_var (pv 1)) pd_int) pd_int) (pda_cons (pd_len rfl B.len (pda_cons (pd_ixT (pd_var (pv 0)) pd_int) pda_nil)) pda_nil))) pda_nil))) (pg_name sc_next_cells.nd rfl (by first | exact .inl rfl | exact .inr rfl)) put_name (psd_fgts (psd_one (psd_if (pdt_tru (pd_c c_are_next (hr.mono (by decide)) rfl passF (pda_cons (pd_var (pv 1)) (pda_cons (pd_tup (pda_cons (pd_var (pv 4)) (pda_cons (pd_var (pv 5)) pda_nil))) (pda_cons (pd_var (pv 2)) pda_nil))) rfl)) (psd_one (psd_app (pv 3) (pd_tup (pda_cons (pd_var (pv 4)) (pda_cons (pd_var (pv 5)) pda_nil))))) psd_nil)))))))) (psd_one (psd_frz (i := 3) (psd_ret (pd_var (pv 3)))))))
abbrev s_law_drawn : Stmt := top 36
def n_law_drawn : List Str := ["_law_script", "_law_k", "_law_many", "_law_cell_here"]
def p_law_drawn : List Str := ["_law_script", "_law_k", "_law_many"]
theorem sc_law_drawn : FnScope n_law_drawn p_law_drawn (defScope s_law_drawn) := ⟨rfl, rfl, rfl, by decide +kernel, rfl, by decide +kernel, by decide +kernel⟩
theorem ok_law_drawn (B : Bl K mg base cv cA Cp) (c_law_cell : CallOk P w K mg base cv 1 "_law_cell" 2 f_law_cell) (T : DefAt K mg "_law_drawn" s_law_drawn f) : CallOk P w K mg base cv 2 "_law_drawn" 3 (f_law_drawn) :=
  callOk_of (N := n_law_drawn) (ps := p_law_drawn) T sc_law_drawn (fun _ _ _ _ _ _ us hl => match us, hl with | [_, _, _], _ => rfl) fun cdv A outer s H E hr =>
    (psd_cons (psd_set sc_law_drawn.nd rfl (by first | exact .inl rfl | exact .inr rfl) (pd_mod (pd_add (pd_mul (pd_mod (pd_c c_law_cell (hr.mono (by decide)) rfl pass1 (pda_cons (pd_var (pv 0)) (pda_cons (pd_var (pv 1)) pda_nil)) rfl) pd_int) pd_int) (pd_mul pd_int (pd_add (pd_var (pv 1)) pd_int))) pd_int)) (psd_cons (psd_set sc_law_drawn.nd rfl (by first | exact .inl rfl | exact .inr rfl) (pd_mod (pd_add (pd_mul (pd_var (pv 3)) (pd_var (pv 3))) (pd_div (pd_var (pv 3)) pd_int)) pd_int)) (psd_one (psd_ret (pd_mod (pd_div (pd_mod (pd_add (pd_mul (pd_var (pv 3)) (pd_var (pv 3))) (pd_div (pd_var (pv 3)) pd_int)) pd_int) pd_int) (pd_var (pv 2)))))))
abbrev s_is_board : Stmt := top 12
def n_is_board : List Str := ["thing"]
def p_is_board : List Str := ["thing"]
theorem sc_is_board : FnScope n_is_board p_is_board (defScope s_is_board) := ⟨rfl, rfl, rfl, by decide +kernel, rfl, by decide +kernel, by decide +kernel⟩
theorem ok_is_board (B : Bl K mg base cv cA Cp) (c_is_row : CallOk P w K mg base cv 2 "is_row" 1 f_is_row) (T : DefAt K mg "is_board" s_is_board f) : CallOk P w K mg base cv 3 "is_board" 1 (f_is_board) :=
  callOk_of (N := n_is_board) (ps := p_is_board) T sc_is_board (fun _ _ _ _ _ _ us hl => match us, hl with | [_], _ => rfl) fun cdv A outer s H E hr =>
    (psd_cons (psd_if (PDW.t (pdw_or (pdt_not (pdt_tru (pd_isi rfl B.isinstance rfl (pda_cons (pd_var (pv 0)) (pda_cons (pd_ty rfl B.tuple rfl) pda_nil))))) (pdw_or1 (pdt_not (pt_chI op_le op_le pd_int (pd_len rfl B.len (pda_cons (pd_var (pv 0)) pda_nil)) (pd_intG rfl B.MOST_ROWS)))))) (psd_one (psd_ret pd_bl)) psd_nil) (psd_cons (psd_if (pdt_not (pdt_tru (pd_all rfl rfl B.all rfl (pda_cons (pd_comp (tn := ["row"]) (n := 0) (compSc_of (N := n_is_board) (osc := (defScope s_is_board)) rfl rfl (by decide +kernel)) rfl rfl (pdi_tup (pd_var (pv 0))) (fun _ _ _ _ _ _ _ => tg_name (show List.Nodup (((["row"] : List Str)) ++ hideN ["row"] n_is_board) by decide +kernel) rfl rfl) (fun _ _ _ _ _ _ => test_nil) (fun _ _ _ _ _ _ => (pd_c c_is_row (hr.mono (by decide)) rfl passF (pda_cons (pd_var (pv 0)) pda_nil) rfl))) pda_nil)))) (psd_one (psd_ret pd_bl)) psd_nil) (psd_one (psd_ret (pd_all rfl rfl B.all rfl (pda_cons (pd_comp (tn := ["row"]) (n := 0) (compSc_of (N := n_is_board) (osc := (defScope s_is_board)) rfl rfl (by decide +kernel)) rfl rfl (pdi_tup (pd_var (pv 0))) (fun _ _ _ _ _ _ _ => tg_name (show List.Nodup (((["row"] : List Str)) ++ hideN ["row"] n_is_board) by decide +kernel) rfl rfl) (fun _ _ _ _ _ _ => test_nil) (fun _ _ _ _ _ _ => (pd_eq hr.units (pd_len rfl B.len (pda_cons (pd_var (pv 0)) pda_nil)) (pd_len rfl B.len (pda_cons (pd_ixT (pd_var (pv 1)) pd_int) pda_nil))))) pda_nil))))))
abbrev s_is_list_of_cells : Stmt := top 14
def n_is_list_of_cells : List Str := ["board", "thing"]
def p_is_list_of_cells : List Str := ["board", "thing"]
theorem sc_is_list_of_cells : FnScope n_is_list_of_cells p_is_list_of_cells (defScope s_is_list_of_cells) := ⟨rfl, rfl, rfl, by decide +kernel, rfl, by decide +kernel, by decide +kernel⟩
theorem ok_is_list_of_cells (B : Bl K mg base cv cA Cp) (c_is_cell : CallOk P w K mg base cv 2 "is_cell" 2 f_is_cell) (T : DefAt K mg "is_list_of_cells" s_is_list_of_cells f) : CallOk P w K mg base cv 3 "is_list_of_cells" 2 (f_is_list_of_cells) :=
  callOk_of (N := n_is_list_of_cells) (ps := p_is_list_of_cells) T sc_is_list_of_cells (fun _ _ _ _ _ _ us hl => match us, hl with | [_, _], _ => rfl) fun cdv A outer s H E hr =>
    (psd_one (psd_ret (pd_and (pd_isi rfl B.isinstance rfl (pda_cons (pd_var (pv 1)) (pda_cons (pd_ty rfl B.list rfl) pda_nil))) (pd_one (pd_all rfl rfl B.all rfl (pda_cons (pd_comp (tn := ["part"]) (n := 0) (compSc_of (N := n_is_list_of_cells) (osc := (defScope s_is_list_of_cells)) rfl rfl (by decide +kernel)) rfl rfl (pdi_list (pd_var (pv 1))) (fun _ _ _ _ _ _ _ => tg_name (show List.Nodup (((["part"] : List Str)) ++ hideN ["part"] n_is_list_of_cells) by decide +kernel) rfl rfl) (fun _ _ _ _ _ _ => test_nil) (fun _ _ _ _ _ _ => (pd_c c_is_cell (hr.mono (by decide)) rfl passF (pda_cons (pd_var (pv 1)) (pda_cons (pd_var (pv 0)) pda_nil)) rfl))) pda_nil))))))
abbrev s_need_cell : Stmt := top 16
def n_need_cell : List Str := ["board", "thing"]
def p_need_cell : List Str := ["board", "thing"]
theorem sc_need_cell : FnScope n_need_cell p_need_cell (defScope s_need_cell) := ⟨rfl, rfl, rfl, by decide +kernel, rfl, by decide +kernel, by decide +kernel⟩
theorem ok_need_cell (B : Bl K mg base cv cA Cp) (c_is_cell : CallOk P w K mg base cv 2 "is_cell" 2 f_is_cell) (T : DefAt K mg "need_cell" s_need_cell f) : CallOk P w K mg base cv 3 "need_cell" 2 (f_need_cell) :=
  callOk_of (N := n_need_cell) (ps := p_need_cell) T sc_need_cell (fun _ _ _ _ _ _ us hl => match us, hl with | [_, _], _ => rfl) fun cdv A outer s H E hr =>
    (psd_one (psd_if (pdt_not (pdt_tru (pd_c c_is_cell (hr.mono (by decide)) rfl pass1 (pda_cons (pd_var (pv 0)) (pda_cons (pd_var (pv 1)) pda_nil)) rfl))) (psd_one psd_stuck) psd_nil))
abbrev s_like_cells : Stmt := top 27
def n_like_cells : List Str := ["board", "cell", "ways", "letter"]
def p_like_cells : List Str := ["board", "cell", "ways"]
theorem sc_like_cells : FnScope n_like_cells p_like_cells (defScope s_like_cells) := ⟨rfl, rfl, rfl, by decide +kernel, rfl, by decide +kernel, by decide +kernel⟩
theorem ok_like_cells (B : Bl K mg base cv cA Cp) (c_letter_of : CallOk P w K mg base cv 1 "letter_of" 2 f_letter_of) (c_next_cells : CallOk P w K mg base cv 2 "next_cells" 3 f_next_cells) (T : DefAt K mg "like_cells" s_like_cells f) : CallOk P w K mg base cv 3 "like_cells" 3 (f_like_cells) :=
  callOk_of (N := n_like_cells) (ps := p_like_cells) T sc_like_cells (fun _ _ _ _ _ _ us hl => match us, hl with | [_, _, _], _ => rfl) fun cdv A outer s H E hr =>
    (psd_cons (psd_set sc_like_cells.nd rfl (by first | exact .inl rfl | exact .inr rfl) (pd_c c_letter_of (hr.mono (by decide)) rfl pass1 (pda_cons (pd_var (pv 0)) (pda_cons (pd_var (pv 1)) pda_nil)) rfl)) (psd_one (psd_ret (pd_comp (tn := ["near"]) (n := 0) (compSc_of (N := n_like_cells) (osc := (defScope s_like_cells)) rfl rfl (by decide +kernel)) rfl rfl (pdi_list (pd_c c_next_cells (hr.mono (by decide)) rfl pass1 (pda_cons (pd_var (pv 0)) (pda_cons (pd_var (pv 1)) (pda_cons (pd_var (pv 2)) pda_nil))) rfl)) (fun _ _ _ _ _ _ _ => tg_name (show List.Nodup (((["near"] : List Str)) ++ hideN ["near"] n_like_cells) by decide +kernel) rfl rfl) (fun _ _ _ _ _ _ => (test_one (pt_eq hr.units (pd_c c_letter_of (hr.mono (by decide)) rfl passF (pda_cons (pd_var (pv 1)) (pda_cons (pd_var (pv 0)) pda_nil)) rfl) (pd_var (pv 4))))) (fun _ _ _ _ _ _ => (pd_var (pv 0)))))))
abbrev s_law_board : Stmt := top 37
def n_law_board : List Str := ["_law_script", "_law_at", "_law_most", "_law_rows", "_law_wide", "_law_alphabet", "_law_found", "_law_row", "_law_signs"]
def p_law_board : List Str := ["_law_script", "_law_at", "_law_most"]
theorem sc_law_board : FnScope n_law_board p_law_board (defScope s_law_board) := ⟨rfl, rfl, rfl, by decide +kernel, rfl, by decide +kernel, by decide +kernel⟩
theorem ok_law_board (B : Bl K mg base cv cA Cp) (c_law_drawn : CallOk P w K mg base cv 2 "_law_drawn" 3 f_law_drawn) (T : DefAt K mg "_law_board" s_law_board f) : CallOk P w K mg base cv 3 "_law_board" 3 (f_law_board) :=
  callOk_of (N := n_law_board) (ps := p_law_board) T sc_law_board (fun _ _ _ _ _ _ us hl => match us, hl with | [_, _, _], _ => rfl) fun cdv A outer s H E hr =>
    (psd_cons (psd_set sc_law_board.nd rfl (by first | exact .inl rfl | exact .inr rfl) (pd_add pd_int (pd_c c_law_drawn (hr.mono (by decide)) rfl pass1 (pda_cons (pd_var (pv 0)) (pda_cons (pd_var (pv 1)) (pda_cons (pd_var (pv 2)) pda_nil))) rfl))) (psd_cons (psd_set sc_law_board.nd rfl (by first | exact .inl rfl | exact .inr rfl) (pd_add pd_int (pd_c c_law_drawn (hr.mono (by decide)) rfl pass1 (pda_cons (pd_var (pv 0)) (pda_cons (pd_add (pd_var (pv 1)) pd_int) (pda_cons (pd_var (pv 2)) pda_nil))) rfl))) (psd_cons (psd_set sc_law_board.nd rfl (by first | exact .inl rfl | exact .inr rfl) (pd_ixL (pd_lst (pda_cons pd_str (pda_cons pd_str (pda_cons pd_str (pda_cons pd_str pda_nil))))) (pd_c c_law_drawn (hr.mono (by decide)) rfl pass1 (pda_cons (pd_var (pv 0)) (pda_cons (pd_add (pd_var (pv 1)) pd_int) (pda_cons pd_int pda_nil))) rfl))) (psd_cons (psd_set sc_law_board.nd rfl (by first | exact .inl rfl | exact .inr rfl) (pd_tup pda_nil)) (psd_cons (psd_nox (psd_for PassesOwn.never rfl (pdi_range1 rfl B.range (pda_cons (pd_var (pv 3)) pda_nil)) (pg_name sc_law_board.nd rfl (by first | exact .inl rfl | exact .inr rfl)) put_name (psd_fgts (psd_cons (psd_setComp (tn := ["_law_k"]) (n := 0) sc_law_board.nd rfl (by first | exact .inl rfl | exact .inr rfl) (compSc_of (N := n_law_board) (osc := (defScope s_law_board)) rfl rfl (by decide +kernel)) rfl rfl (pdi_range1 rfl B.range (pda_cons (pd_var (pv 4)) pda_nil)) (fun _ _ _ _ _ _ _ => tg_name (show List.Nodup (((["_law_k"] : List Str)) ++ hideN ["_law_k"] n_law_board) by decide +kernel) rfl rfl) (fun _ _ _ _ _ _ => test_nil) (fun _ _ _ _ _ _ => (pd_ixS (pd_var (pv 6)) (pd_c c_law_drawn (hr.mono (by decide)) rfl passF (pda_cons (pd_var (pv 1)) (pda_cons (pd_add (pd_add (pd_add (pd_var (pv 2)) pd_int) (pd_mul pd_int (pd_var (pv 8)))) (pd_var (pv 0))) (pda_cons (pd_len rfl B.len (pda_cons (pd_var (pv 6)) pda_nil)) pda_nil))) rfl)))) (psd_one (psd_set sc_law_board.nd rfl (by first | exact .inl rfl | exact .inr rfl) (pd_catT (pd_var (pv 6)) (pd_tup (pda_cons (pd_join pd_str (pda_cons (pd_var (pv 8)) pda_nil)) pda_nil))))))))) (psd_one (psd_ret (pd_var (pv 6)))))))))
abbrev s_need_board : Stmt := top 15
def n_need_board : List Str := ["thing"]
def p_need_board : List Str := ["thing"]
theorem sc_need_board : FnScope n_need_board p_need_board (defScope s_need_board) := ⟨rfl, rfl, rfl, by decide +kernel, rfl, by decide +kernel, by decide +kernel⟩
theorem ok_need_board (B : Bl K mg base cv cA Cp) (c_is_board : CallOk P w K mg base cv 3 "is_board" 1 f_is_board) (T : DefAt K mg "need_board" s_need_board f) : CallOk P w K mg base cv 4 "need_board" 1 (f_need_board) :=
  callOk_of (N := n_need_board) (ps := p_need_board) T sc_need_board (fun _ _ _ _ _ _ us hl => match us, hl with | [_], _ => rfl) fun cdv A outer s H E hr =>
    (psd_one (psd_if (pdt_not (pdt_tru (pd_c c_is_board (hr.mono (by decide)) rfl pass1 (pda_cons (pd_var (pv 0)) pda_nil) rfl))) (psd_one psd_stuck) psd_nil))
abbrev s_steps_back : Stmt := top 28
def n_steps_back : List Str := ["board", "start", "ways", "back", "ring", "further", "cell", "near"]
def p_steps_back : List Str := ["board", "start", "ways"]
theorem sc_steps_back : FnScope n_steps_back p_steps_back (defScope s_steps_back) := ⟨rfl, rfl, rfl, by decide +kernel, rfl, by decide +kernel, by decide +kernel⟩
theorem ok_steps_back (B : Bl K mg base cv cA Cp) (c_like_cells : CallOk P w K mg base cv 3 "like_cells" 3 f_like_cells) (T : DefAt K mg "steps_back" s_steps_back f) : CallOk P w K mg base cv 4 "steps_back" 3 (f_steps_back) :=
  callOk_of (N := n_steps_back) (ps := p_steps_back) T sc_steps_back (fun _ _ _ _ _ _ us hl => match us, hl with | [_, _, _], _ => rfl) fun cdv A outer s H E hr =>
    (psd_cons (psd_newF sc_steps_back.nd rfl (by first | exact .inl rfl | exact .inr rfl) (pdf_dispT hr.units (pd_var (pv 1)) pd_non)) (psd_cons (psd_set sc_steps_back.nd rfl (by first | exact .inl rfl | exact .inr rfl) (pd_lst (pda_cons (pd_var (pv 1)) pda_nil))) (psd_cons (psd_nox (psd_while PassesOwn.never (pdt_tru (pd_var (pv 4))) (psd_fgts (psd_cons (psd_new sc_steps_back.nd rfl (by first | exact .inl rfl | exact .inr rfl)) (psd_cons (psd_for PassesOwn.never rfl (pdi_list (pd_var (pv 4))) (pg_name sc_steps_back.nd rfl (by first | exact .inl rfl | exact .inr rfl)) put_name (psd_fgts (psd_one (psd_for PassesOwn.never rfl (pdi_list (pd_c c_like_cells (hr.mono (by decide)) rfl passF (pda_cons (pd_var (pv 0)) (pda_cons (pd_var (pv 6)) (pda_cons (pd_var (pv 2)) pda_nil))) rfl)) (pg_name sc_steps_back.nd rfl (by first | exact .inl rfl | exact .inr rfl)) put_name (psd_fgts (psd_one (psd_if (pdt_tf (pt_notinD hr.units (pd_var (pv 7)) (pd_var (pv 3)))) (psd_cons (psd_putO hr.units (pv 3) (pd_var (pv 7)) (pd_var (pv 6))) (psd_one (psd_app (pv 5) (pd_var (pv 7))))) psd_nil))))))) (psd_one (psd_frz (i := 5) (psd_set sc_steps_back.nd rfl (by first | exact .inl rfl | exact .inr rfl) (pd_var (pv 5)))))))))) (psd_one (psd_frz (i := 3) (psd_ret (pd_var (pv 3))))))))
abbrev s_cells : Stmt := top 24
def n_cells : List Str := ["board"]
def p_cells : List Str := ["board"]
theorem sc_cells : FnScope n_cells p_cells (defScope s_cells) := ⟨rfl, rfl, rfl, by decide +kernel, rfl, by decide +kernel, by decide +kernel⟩
theorem ok_cells (B : Bl K mg base cv cA Cp) (c_need_board : CallOk P w K mg base cv 4 "need_board" 1 f_need_board) (c_all_cells : CallOk P w K mg base cv 2 "all_cells" 1 f_all_cells) (T : DefAt K mg "cells" s_cells f) : CallOk P w K mg base cv 5 "cells" 1 (f_cells) :=
  callOk_of (N := n_cells) (ps := p_cells) T sc_cells (fun _ _ _ _ _ _ us hl => match us, hl with | [_], _ => rfl) fun cdv A outer s H E hr =>
    (psd_cons (psd_exp (pd_c c_need_board (hr.mono (by decide)) rfl pass1 (pda_cons (pd_var (pv 0)) pda_nil) rfl)) (psd_one (psd_ret (pd_c c_all_cells (hr.mono (by decide)) rfl pass1 (pda_cons (pd_var (pv 0)) pda_nil) rfl))))
abbrev s_need_two_cells : Stmt := top 26
def n_need_two_cells : List Str := ["board", "ways", "one", "other"]
def p_need_two_cells : List Str := ["board", "ways", "one", "other"]
theorem sc_need_two_cells : FnScope n_need_two_cells p_need_two_cells (defScope s_need_two_cells) := ⟨rfl, rfl, rfl, by decide +kernel, rfl, by decide +kernel, by decide +kernel⟩
theorem ok_need_two_cells (B : Bl K mg base cv cA Cp) (c_need_board : CallOk P w K mg base cv 4 "need_board" 1 f_need_board) (c_need_ways : CallOk P w K mg base cv 2 "need_ways" 1 f_need_ways) (c_need_cell : CallOk P w K mg base cv 3 "need_cell" 2 f_need_cell) (T : DefAt K mg "need_two_cells" s_need_two_cells f) : CallOk P w K mg base cv 5 "need_two_cells" 4 (f_need_two_cells) :=
  callOk_of (N := n_need_two_cells) (ps := p_need_two_cells) T sc_need_two_cells (fun _ _ _ _ _ _ us hl => match us, hl with | [_, _, _, _], _ => rfl) fun cdv A outer s H E hr =>
    (psd_cons (psd_exp (pd_c c_need_board (hr.mono (by decide)) rfl pass1 (pda_cons (pd_var (pv 0)) pda_nil) rfl)) (psd_cons (psd_exp (pd_c c_need_ways (hr.mono (by decide)) rfl pass1 (pda_cons (pd_var (pv 1)) pda_nil) rfl)) (psd_cons (psd_exp (pd_c c_need_cell (hr.mono (by decide)) rfl pass1 (pda_cons (pd_var (pv 0)) (pda_cons (pd_var (pv 2)) pda_nil)) rfl)) (psd_one (psd_exp (pd_c c_need_cell (hr.mono (by decide)) rfl pass1 (pda_cons (pd_var (pv 0)) (pda_cons (pd_var (pv 3)) pda_nil)) rfl))))))
abbrev s_patch_of : Stmt := top 29
def n_patch_of : List Str := ["board", "cell", "ways"]
def p_patch_of : List Str := ["board", "cell", "ways"]
theorem sc_patch_of : FnScope n_patch_of p_patch_of (defScope s_patch_of) := ⟨rfl, rfl, rfl, by decide +kernel, rfl, by decide +kernel, by decide +kernel⟩
theorem ok_patch_of (B : Bl K mg base cv cA Cp) (c_need_board : CallOk P w K mg base cv 4 "need_board" 1 f_need_board) (c_need_cell : CallOk P w K mg base cv 3 "need_cell" 2 f_need_cell) (c_need_ways : CallOk P w K mg base cv 2 "need_ways" 1 f_need_ways) (c_steps_back : CallOk P w K mg base cv 4 "steps_back" 3 f_steps_back) (T : DefAt K mg "patch_of" s_patch_of f) : CallOk P w K mg base cv 5 "patch_of" 3 (f_patch_of) :=
  callOk_of (N := n_patch_of) (ps := p_patch_of) T sc_patch_of (fun _ _ _ _ _ _ us hl => match us, hl with | [_, _, _], _ => rfl) fun cdv A outer s H E hr =>
    (psd_cons (psd_exp (pd_c c_need_board (hr.mono (by decide)) rfl pass1 (pda_cons (pd_var (pv 0)) pda_nil) rfl)) (psd_cons (psd_exp (pd_c c_need_cell (hr.mono (by decide)) rfl pass1 (pda_cons (pd_var (pv 0)) (pda_cons (pd_var (pv 1)) pda_nil)) rfl)) (psd_cons (psd_exp (pd_c c_need_ways (hr.mono (by decide)) rfl pass1 (pda_cons (pd_var (pv 2)) pda_nil) rfl)) (psd_one (psd_ret (pd_srtD rfl rfl B.sorted rfl (pda_cons (pd_c c_steps_back (hr.mono (by decide)) rfl pass1 (pda_cons (pd_var (pv 0)) (pda_cons (pd_var (pv 1)) (pda_cons (pd_var (pv 2)) pda_nil))) rfl) pda_nil)))))))
abbrev s_are_one : Stmt := top 30
def n_are_one : List Str := ["board", "ways", "one", "other"]
def p_are_one : List Str := ["board", "ways", "one", "other"]
theorem sc_are_one : FnScope n_are_one p_are_one (defScope s_are_one) := ⟨rfl, rfl, rfl, by decide +kernel, rfl, by decide +kernel, by decide +kernel⟩
theorem ok_are_one (B : Bl K mg base cv cA Cp) (c_need_two_cells : CallOk P w K mg base cv 5 "need_two_cells" 4 f_need_two_cells) (c_steps_back : CallOk P w K mg base cv 4 "steps_back" 3 f_steps_back) (T : DefAt K mg "are_one" s_are_one f) : CallOk P w K mg base cv 6 "are_one" 4 (f_are_one) :=
  callOk_of (N := n_are_one) (ps := p_are_one) T sc_are_one (fun _ _ _ _ _ _ us hl => match us, hl with | [_, _, _, _], _ => rfl) fun cdv A outer s H E hr =>
    (psd_cons (psd_exp (pd_c c_need_two_cells (hr.mono (by decide)) rfl pass1 (pda_cons (pd_var (pv 0)) (pda_cons (pd_var (pv 1)) (pda_cons (pd_var (pv 2)) (pda_cons (pd_var (pv 3)) pda_nil)))) rfl)) (psd_one (psd_ret (pd_inD hr.units (pd_var (pv 3)) (pd_c c_steps_back (hr.mono (by decide)) rfl pass1 (pda_cons (pd_var (pv 0)) (pda_cons (pd_var (pv 2)) (pda_cons (pd_var (pv 1)) pda_nil))) rfl)))))
abbrev s_way : Stmt := top 31
def n_way : List Str := ["board", "ways", "one", "other", "back", "told"]
def p_way : List Str := ["board", "ways", "one", "other"]
theorem sc_way : FnScope n_way p_way (defScope s_way) := ⟨rfl, rfl, rfl, by decide +kernel, rfl, by decide +kernel, by decide +kernel⟩
theorem ok_way (B : Bl K mg base cv cA Cp) (c_need_two_cells : CallOk P w K mg base cv 5 "need_two_cells" 4 f_need_two_cells) (c_steps_back : CallOk P w K mg base cv 4 "steps_back" 3 f_steps_back) (T : DefAt K mg "way" s_way f) : CallOk P w K mg base cv 6 "way" 4 (f_way) :=
  callOk_of (N := n_way) (ps := p_way) T sc_way (fun _ _ _ _ _ _ us hl => match us, hl with | [_, _, _, _], _ => rfl) fun cdv A outer s H E hr =>
    (psd_cons (psd_exp (pd_c c_need_two_cells (hr.mono (by decide)) rfl pass1 (pda_cons (pd_var (pv 0)) (pda_cons (pd_var (pv 1)) (pda_cons (pd_var (pv 2)) (pda_cons (pd_var (pv 3)) pda_nil)))) rfl)) (psd_cons (psd_set sc_way.nd rfl (by first | exact .inl rfl | exact .inr rfl) (pd_c c_steps_back (hr.mono (by decide)) rfl pass1 (pda_cons (pd_var (pv 0)) (pda_cons (pd_var (pv 3)) (pda_cons (pd_var (pv 1)) pda_nil))) rfl)) (psd_cons (psd_if (pt_notinD hr.units (pd_var (pv 2)) (pd_var (pv 4))) (psd_one (psd_ret pd_non)) psd_nil) (psd_cons (psd_newF sc_way.nd rfl (by first | exact .inl rfl | exact .inr rfl) (pdf_lst (pda_cons (pd_var (pv 2)) pda_nil))) (psd_cons (psd_nox (psd_while PassesOwn.never (pdt_tf (pt_ne hr.units (pd_ixL (pd_var (pv 5)) (pd_neg pd_int)) (pd_var (pv 3)))) (psd_one (psd_app (pv 5) (pd_tf (pd_ixD hr.units (pd_var (pv 4)) (pd_ixL (pd_var (pv 5)) (pd_neg pd_int)))))))) (psd_one (psd_frz (i := 5) (psd_ret (pd_var (pv 5))))))))))
abbrev s_is_way : Stmt := top 32
def n_is_way : List Str := ["board", "ways", "one", "other", "thing", "letter"]
def p_is_way : List Str := ["board", "ways", "one", "other", "thing"]
theorem sc_is_way : FnScope n_is_way p_is_way (defScope s_is_way) := ⟨rfl, rfl, rfl, by decide +kernel, rfl, by decide +kernel, by decide +kernel⟩
theorem ok_is_way (B : Bl K mg base cv cA Cp) (c_need_two_cells : CallOk P w K mg base cv 5 "need_two_cells" 4 f_need_two_cells) (c_letter_of : CallOk P w K mg base cv 1 "letter_of" 2 f_letter_of) (c_is_list_of_cells : CallOk P w K mg base cv 3 "is_list_of_cells" 2 f_is_list_of_cells) (c_are_next : CallOk P w K mg base cv 1 "are_next" 3 f_are_next) (T : DefAt K mg "is_way" s_is_way f) : CallOk P w K mg base cv 6 "is_way" 5 (f_is_way) :=
  callOk_of (N := n_is_way) (ps := p_is_way) T sc_is_way (fun _ _ _ _ _ _ us hl => match us, hl with | [_, _, _, _, _], _ => rfl) fun cdv A outer s H E hr =>
    (psd_cons (psd_exp (pd_c c_need_two_cells (hr.mono (by decide)) rfl pass1 (pda_cons (pd_var (pv 0)) (pda_cons (pd_var (pv 1)) (pda_cons (pd_var (pv 2)) (pda_cons (pd_var (pv 3)) pda_nil)))) rfl)) (psd_cons (psd_if (PDW.t (pdw_or (pdt_not (pdt_tru (pd_c c_is_list_of_cells (hr.mono (by decide)) rfl pass1 (pda_cons (pd_var (pv 0)) (pda_cons (pd_var (pv 4)) pda_nil)) rfl))) (pdw_or1 (pt_eq hr.units (pd_len rfl B.len (pda_cons (pd_var (pv 4)) pda_nil)) pd_int)))) (psd_one (psd_ret pd_bl)) psd_nil) (psd_cons (psd_if (PDW.t (pdw_or (pt_ne hr.units (pd_ixL (pd_var (pv 4)) pd_int) (pd_var (pv 2))) (pdw_or1 (pt_ne hr.units (pd_ixL (pd_var (pv 4)) (pd_neg pd_int)) (pd_var (pv 3)))))) (psd_one (psd_ret pd_bl)) psd_nil) (psd_cons (psd_set sc_is_way.nd rfl (by first | exact .inl rfl | exact .inr rfl) (pd_c c_letter_of (hr.mono (by decide)) rfl pass1 (pda_cons (pd_var (pv 0)) (pda_cons (pd_var (pv 2)) pda_nil)) rfl)) (psd_cons (psd_if (pdt_not (pdt_tru (pd_all rfl rfl B.all rfl (pda_cons (pd_comp (tn := ["cell"]) (n := 0) (compSc_of (N := n_is_way) (osc := (defScope s_is_way)) rfl rfl (by decide +kernel)) rfl rfl (pdi_list (pd_var (pv 4))) (fun _ _ _ _ _ _ _ => tg_name (show List.Nodup (((["cell"] : List Str)) ++ hideN ["cell"] n_is_way) by decide +kernel) rfl rfl) (fun _ _ _ _ _ _ => test_nil) (fun _ _ _ _ _ _ => (pd_eq hr.units (pd_c c_letter_of (hr.mono (by decide)) rfl passF (pda_cons (pd_var (pv 1)) (pda_cons (pd_var (pv 0)) pda_nil)) rfl) (pd_var (pv 6))))) pda_nil)))) (psd_one (psd_ret pd_bl)) psd_nil) (psd_one (psd_ret (pd_all rfl rfl B.all rfl (pda_cons (pd_comp (tn := ["place"]) (n := 0) (compSc_of (N := n_is_way) (osc := (defScope s_is_way)) rfl rfl (by decide +kernel)) rfl rfl (pdi_range2 rfl B.range (pda_cons pd_int (pda_cons (pd_len rfl B.len (pda_cons (pd_var (pv 4)) pda_nil)) pda_nil))) (fun _ _ _ _ _ _ _ => tg_name (show List.Nodup (((["place"] : List Str)) ++ hideN ["place"] n_is_way) by decide +kernel) rfl rfl) (fun _ _ _ _ _ _ => test_nil) (fun _ _ _ _ _ _ => (pd_c c_are_next (hr.mono (by decide)) rfl passF (pda_cons (pd_ixL (pd_var (pv 5)) (pd_sub (pd_var (pv 0)) pd_int)) (pda_cons (pd_ixL (pd_var (pv 5)) (pd_var (pv 0))) (pda_cons (pd_var (pv 2)) pda_nil))) rfl))) pda_nil)))))))))
abbrev s_is_fence : Stmt := top 33
def n_is_fence : List Str := ["board", "ways", "one", "other", "thing", "inside", "cell"]
def p_is_fence : List Str := ["board", "ways", "one", "other", "thing"]
theorem sc_is_fence : FnScope n_is_fence p_is_fence (defScope s_is_fence) := ⟨rfl, rfl, rfl, by decide +kernel, rfl, by decide +kernel, by decide +kernel⟩
theorem ok_is_fence (B : Bl K mg base cv cA Cp) (c_need_two_cells : CallOk P w K mg base cv 5 "need_two_cells" 4 f_need_two_cells) (c_keyed : CallOk P w K mg base cv 1 "keyed" 1 f_keyed) (c_is_list_of_cells : CallOk P w K mg base cv 3 "is_list_of_cells" 2 f_is_list_of_cells) (c_like_cells : CallOk P w K mg base cv 3 "like_cells" 3 f_like_cells) (T : DefAt K mg "is_fence" s_is_fence f) : CallOk P w K mg base cv 6 "is_fence" 5 (f_is_fence) :=
  callOk_of (N := n_is_fence) (ps := p_is_fence) T sc_is_fence (fun _ _ _ _ _ _ us hl => match us, hl with | [_, _, _, _, _], _ => rfl) fun cdv A outer s H E hr =>
    (psd_cons (psd_exp (pd_c c_need_two_cells (hr.mono (by decide)) rfl pass1 (pda_cons (pd_var (pv 0)) (pda_cons (pd_var (pv 1)) (pda_cons (pd_var (pv 2)) (pda_cons (pd_var (pv 3)) pda_nil)))) rfl)) (psd_cons (psd_if (pdt_not (pdt_tru (pd_c c_is_list_of_cells (hr.mono (by decide)) rfl pass1 (pda_cons (pd_var (pv 0)) (pda_cons (pd_var (pv 4)) pda_nil)) rfl))) (psd_one (psd_ret pd_bl)) psd_nil) (psd_cons (psd_set sc_is_fence.nd rfl (by first | exact .inl rfl | exact .inr rfl) (pd_c c_keyed (hr.mono (by decide)) rfl pass1 (pda_cons (pd_var (pv 4)) pda_nil) rfl)) (psd_cons (psd_if (PDW.t (pdw_or (pt_notinD hr.units (pd_var (pv 2)) (pd_var (pv 5))) (pdw_or1 (pt_inD hr.units (pd_var (pv 3)) (pd_var (pv 5)))))) (psd_one (psd_ret pd_bl)) psd_nil) (psd_cons (psd_nox (psd_for PassesOwn.never rfl (pdi_keys (pd_var (pv 5))) (pg_name sc_is_fence.nd rfl (by first | exact .inl rfl | exact .inr rfl)) put_name (psd_fgts (psd_one (psd_if (pdt_not (pdt_tru (pd_all rfl rfl B.all rfl (pda_cons (pd_comp (tn := ["near"]) (n := 0) (compSc_of (N := n_is_fence) (osc := (defScope s_is_fence)) rfl rfl (by decide +kernel)) rfl rfl (pdi_list (pd_c c_like_cells (hr.mono (by decide)) rfl passF (pda_cons (pd_var (pv 0)) (pda_cons (pd_var (pv 6)) (pda_cons (pd_var (pv 1)) pda_nil))) rfl)) (fun _ _ _ _ _ _ _ => tg_name (show List.Nodup (((["near"] : List Str)) ++ hideN ["near"] n_is_fence) by decide +kernel) rfl rfl) (fun _ _ _ _ _ _ => test_nil) (fun _ _ _ _ _ _ => (pd_inD hr.units (pd_var (pv 0)) (pd_var (pv 6))))) pda_nil)))) (psd_one (psd_ret pd_bl)) psd_nil))))) (psd_one (psd_ret pd_bl)))))))
abbrev s_law_k21 : Stmt := top 40
def n_law_k21 : List Str := ["_law_script", "_law_board_here", "_law_whole", "_law_one", "_law_other", "_law_third", "_law_ways", "_law_told", "_law_patch", "_law_goal", "_law_row", "_law_back", "_law_more", "_law_both", "_law_direct", "_law_sides"]
def p_law_k21 : List Str := ["_law_script"]
theorem sc_law_k21 : FnScope n_law_k21 p_law_k21 (defScope s_law_k21) := ⟨rfl, rfl, rfl, by decide +kernel, rfl, by decide +kernel, by decide +kernel⟩
set_option maxHeartbeats 4000000 in
theorem st_law_k21_0 (B : Bl K mg base cv cA Cp) (c_law_board : CallOk P w K mg base cv 3 "_law_board" 3 f_law_board) {cdv : Value} {A : Around} {outer : List Env} {s : Shared} {H : Hp} {E : XK} (hr : Room 6 (A.deeper (envOfC "law" (defScope s_law_k21) s.heap.objs.size f cdv))) :
    Box (PSD (cxOf (CX1 P w cv) P w K mg base n_law_k21 "law" (defScope s_law_k21) f cdv A outer s H E) (fun n H' => E (cv n) none H') ((defBody s_law_k21).getD 0 (.Pass ⟨0, 0, 0, 0⟩)) τ_law_k21_0) :=
  ⟨(psd_set sc_law_k21.nd rfl (by first | exact .inl rfl | exact .inr rfl) (pd_c c_law_board (hr.mono (by decide)) rfl pass1 (pda_cons (pd_var (pv 0)) (pda_cons pd_int (pda_cons pd_int pda_nil))) rfl))⟩
set_option maxHeartbeats 4000000 in
theorem st_law_k21_1 (B : Bl K mg base cv cA Cp) (c_cells : CallOk P w K mg base cv 5 "cells" 1 f_cells) {cdv : Value} {A : Around} {outer : List Env} {s : Shared} {H : Hp} {E : XK} (hr : Room 6 (A.deeper (envOfC "law" (defScope s_law_k21) s.heap.objs.size f cdv))) :
    Box (PSD (cxOf (CX1 P w cv) P w K mg base n_law_k21 "law" (defScope s_law_k21) f cdv A outer s H E) (fun n H' => E (cv n) none H') ((defBody s_law_k21).getD 1 (.Pass ⟨0, 0, 0, 0⟩)) τ_law_k21_1) :=
  ⟨(psd_set sc_law_k21.nd rfl (by first | exact .inl rfl | exact .inr rfl) (pd_c c_cells (hr.mono (by decide)) rfl pass1 (pda_cons (pd_var (pv 1)) pda_nil) rfl))⟩
set_option maxHeartbeats 4000000 in
theorem st_law_k21_2 (B : Bl K mg base cv cA Cp) (c_law_drawn : CallOk P w K mg base cv 2 "_law_drawn" 3 f_law_drawn) {cdv : Value} {A : Around} {outer : List Env} {s : Shared} {H : Hp} {E : XK} (hr : Room 6 (A.deeper (envOfC "law" (defScope s_law_k21) s.heap.objs.size f cdv))) :
    Box (PSD (cxOf (CX1 P w cv) P w K mg base n_law_k21 "law" (defScope s_law_k21) f cdv A outer s H E) (fun n H' => E (cv n) none H') ((defBody s_law_k21).getD 2 (.Pass ⟨0, 0, 0, 0⟩)) τ_law_k21_2) :=
  ⟨(psd_asg (pd_comp (tn := ["_law_k"]) (n := 0) (compSc_of (N := n_law_k21) (osc := (defScope s_law_k21)) rfl rfl (by decide +kernel)) rfl rfl (pdi_range1 rfl B.range (pda_cons pd_int pda_nil)) (fun _ _ _ _ _ _ _ => tg_name (show List.Nodup (((["_law_k"] : List Str)) ++ hideN ["_law_k"] n_law_k21) by decide +kernel) rfl rfl) (fun _ _ _ _ _ _ => test_nil) (fun _ _ _ _ _ _ => (pd_ixL (pd_var (pv 3)) (pd_c c_law_drawn (hr.mono (by decide)) rfl passF (pda_cons (pd_var (pv 1)) (pda_cons (pd_add pd_int (pd_var (pv 0))) (pda_cons (pd_len rfl B.len (pda_cons (pd_var (pv 3)) pda_nil)) pda_nil))) rfl)))) (pg_lst rfl (pgs_cons (pg_name sc_law_k21.nd rfl (by first | exact .inl rfl | exact .inr rfl)) (pgs_cons (pg_name sc_law_k21.nd rfl (by first | exact .inl rfl | exact .inr rfl)) (pgs_cons (pg_name sc_law_k21.nd rfl (by first | exact .inl rfl | exact .inr rfl)) pgs_nil)))) (put_lst (is := [3, 4, 5])))⟩
set_option maxHeartbeats 4000000 in
theorem st_law_k21_3 (B : Bl K mg base cv cA Cp) (c_way : CallOk P w K mg base cv 6 "way" 4 f_way) (c_patch_of : CallOk P w K mg base cv 5 "patch_of" 3 f_patch_of) (c_is_fence : CallOk P w K mg base cv 6 "is_fence" 5 f_is_fence) (c_are_one : CallOk P w K mg base cv 6 "are_one" 4 f_are_one) (c_is_way : CallOk P w K mg base cv 6 "is_way" 5 f_is_way) {cdv : Value} {A : Around} {outer : List Env} {s : Shared} {H : Hp} {E : XK} (hr : Room 6 (A.deeper (envOfC "law" (defScope s_law_k21) s.heap.objs.size f cdv))) :
    Box (PSD (cxOf (CX1 P w cv) P w K mg base n_law_k21 "law" (defScope s_law_k21) f cdv A outer s H E) (fun n H' => E (cv n) none H') ((defBody s_law_k21).getD 3 (.Pass ⟨0, 0, 0, 0⟩)) τ_law_k21_3) :=
  ⟨(psd_nox (psd_for PassesOwn.never rfl (pdi_tup (pd_tup (pda_cons pd_int (pda_cons pd_int pda_nil)))) (pg_name sc_law_k21.nd rfl (by first | exact .inl rfl | exact .inr rfl)) put_name (psd_fgts (psd_cons (psd_set sc_law_k21.nd rfl (by first | exact .inl rfl | exact .inr rfl) (pd_c c_way (hr.mono (by decide)) rfl passF (pda_cons (pd_var (pv 1)) (pda_cons (pd_var (pv 6)) (pda_cons (pd_var (pv 3)) (pda_cons (pd_var (pv 4)) pda_nil)))) rfl)) (psd_cons (psd_set sc_law_k21.nd rfl (by first | exact .inl rfl | exact .inr rfl) (pd_c c_patch_of (hr.mono (by decide)) rfl passF (pda_cons (pd_var (pv 1)) (pda_cons (pd_var (pv 3)) (pda_cons (pd_var (pv 6)) pda_nil))) rfl)) (psd_cons (psd_if (pt_ne hr.units (pd_c c_is_fence (hr.mono (by decide)) rfl passF (pda_cons (pd_var (pv 1)) (pda_cons (pd_var (pv 6)) (pda_cons (pd_var (pv 3)) (pda_cons (pd_var (pv 4)) (pda_cons (pd_var (pv 8)) pda_nil))))) rfl) (pd_isN (pd_var (pv 7)) pd_non)) (psd_one (psd_ret pd_bl)) psd_nil) (psd_cons (psd_if (pt_eq hr.units (pd_isN (pd_var (pv 7)) pd_non) (pd_c c_are_one (hr.mono (by decide)) rfl passF (pda_cons (pd_var (pv 1)) (pda_cons (pd_var (pv 6)) (pda_cons (pd_var (pv 3)) (pda_cons (pd_var (pv 4)) pda_nil)))) rfl)) (psd_one (psd_ret pd_bl)) psd_nil) (psd_cons (psd_if (pdt_tru (pd_c c_is_fence (hr.mono (by decide)) rfl passF (pda_cons (pd_var (pv 1)) (pda_cons (pd_var (pv 6)) (pda_cons (pd_var (pv 3)) (pda_cons (pd_var (pv 4)) (pda_cons (pd_var (pv 2)) pda_nil))))) rfl)) (psd_one (psd_ret pd_bl)) psd_nil) (psd_cons (psd_if (pt_ne hr.units (pd_c c_are_one (hr.mono (by decide)) rfl passF (pda_cons (pd_var (pv 1)) (pda_cons (pd_var (pv 6)) (pda_cons (pd_var (pv 4)) (pda_cons (pd_var (pv 3)) pda_nil)))) rfl) (pd_c c_are_one (hr.mono (by decide)) rfl passF (pda_cons (pd_var (pv 1)) (pda_cons (pd_var (pv 6)) (pda_cons (pd_var (pv 3)) (pda_cons (pd_var (pv 4)) pda_nil)))) rfl)) (psd_one (psd_ret pd_bl)) psd_nil) (psd_cons (psd_if (PDW.t (pdw_or (pdt_not (pdt_tru (pd_c c_is_way (hr.mono (by decide)) rfl passF (pda_cons (pd_var (pv 1)) (pda_cons (pd_var (pv 6)) (pda_cons (pd_var (pv 3)) (pda_cons (pd_var (pv 3)) (pda_cons (pd_lst (pda_cons (pd_var (pv 3)) pda_nil)) pda_nil))))) rfl))) (pdw_or1 (pt_ne hr.units (pd_c c_way (hr.mono (by decide)) rfl passF (pda_cons (pd_var (pv 1)) (pda_cons (pd_var (pv 6)) (pda_cons (pd_var (pv 3)) (pda_cons (pd_var (pv 3)) pda_nil)))) rfl) (pd_lst (pda_cons (pd_var (pv 3)) pda_nil)))))) (psd_one (psd_ret pd_bl)) psd_nil) (psd_cons (psd_set sc_law_k21.nd rfl (by first | exact .inl rfl | exact .inr rfl) (pd_if (pt_notN (pd_var (pv 7)) pd_non) (pd_var (pv 4)) (pd_var (pv 3)))) (psd_cons (psd_set sc_law_k21.nd rfl (by first | exact .inl rfl | exact .inr rfl) (pd_if (pt_notN (pd_var (pv 7)) pd_non) (pd_var (pv 7)) (pd_lst (pda_cons (pd_var (pv 3)) pda_nil)))) (psd_cons (psd_set sc_law_k21.nd rfl (by first | exact .inl rfl | exact .inr rfl) (pd_c c_way (hr.mono (by decide)) rfl passF (pda_cons (pd_var (pv 1)) (pda_cons (pd_var (pv 6)) (pda_cons (pd_var (pv 9)) (pda_cons (pd_var (pv 3)) pda_nil)))) rfl)) (psd_cons (psd_if (PDW.t (pdw_or (pt_ne hr.units (pd_len rfl B.len (pda_cons (pd_var (pv 11)) pda_nil)) (pd_len rfl B.len (pda_cons (pd_var (pv 10)) pda_nil))) (pdw_or1 (pdt_not (pdt_tru (pd_c c_is_way (hr.mono (by decide)) rfl passF (pda_cons (pd_var (pv 1)) (pda_cons (pd_var (pv 6)) (pda_cons (pd_var (pv 3)) (pda_cons (pd_var (pv 9)) (pda_cons (pd_revL (pd_var (pv 11)) (pd_neg pd_int)) pda_nil))))) rfl)))))) (psd_one (psd_ret pd_bl)) psd_nil) (psd_cons (psd_if (PDW.t (pdw_or (pdt_not (pdt_tru (pd_c c_is_way (hr.mono (by decide)) rfl passF (pda_cons (pd_var (pv 1)) (pda_cons pd_int (pda_cons (pd_var (pv 3)) (pda_cons (pd_var (pv 9)) (pda_cons (pd_var (pv 10)) pda_nil))))) rfl))) (pdw_or1 (pt_ne hr.units (pd_comp (tn := ["_law_cell_here"]) (n := 0) (compSc_of (N := n_law_k21) (osc := (defScope s_law_k21)) rfl rfl (by decide +kernel)) rfl rfl (pdi_list (pd_var (pv 10))) (fun _ _ _ _ _ _ _ => tg_name (show List.Nodup (((["_law_cell_here"] : List Str)) ++ hideN ["_law_cell_here"] n_law_k21) by decide +kernel) rfl rfl) (fun _ _ _ _ _ _ => (test_one (pt_notinT hr.units (pd_var (pv 0)) (pd_var (pv 9))))) (fun _ _ _ _ _ _ => (pd_var (pv 0)))) (pd_lst pda_nil))))) (psd_one (psd_ret pd_bl)) psd_nil) (psd_cons (psd_set sc_law_k21.nd rfl (by first | exact .inl rfl | exact .inr rfl) (pd_c c_way (hr.mono (by decide)) rfl passF (pda_cons (pd_var (pv 1)) (pda_cons (pd_var (pv 6)) (pda_cons (pd_var (pv 9)) (pda_cons (pd_var (pv 5)) pda_nil)))) rfl)) (psd_one (psd_if (pt_notN (pd_var (pv 12)) pd_non) (psd_cons (psd_set sc_law_k21.nd rfl (by first | exact .inl rfl | exact .inr rfl) (pd_catL (pd_var (pv 10)) (pd_sl (pd_var (pv 12)) (pdo_some pd_int) pdo_none))) (psd_cons (psd_set sc_law_k21.nd rfl (by first | exact .inl rfl | exact .inr rfl) (pd_c c_way (hr.mono (by decide)) rfl passF (pda_cons (pd_var (pv 1)) (pda_cons (pd_var (pv 6)) (pda_cons (pd_var (pv 3)) (pda_cons (pd_var (pv 5)) pda_nil)))) rfl)) (psd_one (psd_if (PDW.t (pdw_or (pdt_not (pdt_tru (pd_c c_is_way (hr.mono (by decide)) rfl passF (pda_cons (pd_var (pv 1)) (pda_cons (pd_var (pv 6)) (pda_cons (pd_var (pv 3)) (pda_cons (pd_var (pv 5)) (pda_cons (pd_var (pv 13)) pda_nil))))) rfl))) (pdw_or1 (pt_gt (pd_len rfl B.len (pda_cons (pd_var (pv 14)) pda_nil)) (pd_len rfl B.len (pda_cons (pd_var (pv 13)) pda_nil)))))) (psd_one (psd_ret pd_bl)) psd_nil)))) psd_nil))))))))))))))))))⟩
set_option maxHeartbeats 4000000 in
theorem st_law_k21_4 (B : Bl K mg base cv cA Cp) (c_way : CallOk P w K mg base cv 6 "way" 4 f_way) {cdv : Value} {A : Around} {outer : List Env} {s : Shared} {H : Hp} {E : XK} (hr : Room 6 (A.deeper (envOfC "law" (defScope s_law_k21) s.heap.objs.size f cdv))) :
    Box (PSD (cxOf (CX1 P w cv) P w K mg base n_law_k21 "law" (defScope s_law_k21) f cdv A outer s H E) (fun n H' => E (cv n) none H') ((defBody s_law_k21).getD 4 (.Pass ⟨0, 0, 0, 0⟩)) τ_law_k21_4) :=
  ⟨(psd_set sc_law_k21.nd rfl (by first | exact .inl rfl | exact .inr rfl) (pd_c c_way (hr.mono (by decide)) rfl pass1 (pda_cons (pd_var (pv 1)) (pda_cons pd_int (pda_cons (pd_var (pv 3)) (pda_cons (pd_var (pv 4)) pda_nil)))) rfl))⟩
set_option maxHeartbeats 4000000 in
theorem st_law_k21_5 (B : Bl K mg base cv cA Cp) (c_way : CallOk P w K mg base cv 6 "way" 4 f_way) {cdv : Value} {A : Around} {outer : List Env} {s : Shared} {H : Hp} {E : XK} (hr : Room 6 (A.deeper (envOfC "law" (defScope s_law_k21) s.heap.objs.size f cdv))) :
    Box (PSD (cxOf (CX1 P w cv) P w K mg base n_law_k21 "law" (defScope s_law_k21) f cdv A outer s H E) (fun n H' => E (cv n) none H') ((defBody s_law_k21).getD 5 (.Pass ⟨0, 0, 0, 0⟩)) τ_law_k21_5) :=
  ⟨(psd_ret (pd_or (pd_isN (pd_var (pv 15)) pd_non) (pd_one (pd_le (pd_len rfl B.len (pda_cons (pd_c c_way (hr.mono (by decide)) rfl pass1 (pda_cons (pd_var (pv 1)) (pda_cons pd_int (pda_cons (pd_var (pv 3)) (pda_cons (pd_var (pv 4)) pda_nil)))) rfl) pda_nil)) (pd_len rfl B.len (pda_cons (pd_var (pv 15)) pda_nil))))))⟩
set_option maxHeartbeats 4000000 in
theorem okF_law_k21 {fd : FuncData} (B : Bl K mg base cv cA Cp) (c_law_board : CallOk P w K mg base cv 3 "_law_board" 3 f_law_board) (c_cells : CallOk P w K mg base cv 5 "cells" 1 f_cells) (c_way : CallOk P w K mg base cv 6 "way" 4 f_way) (c_patch_of : CallOk P w K mg base cv 5 "patch_of" 3 f_patch_of) (c_is_fence : CallOk P w K mg base cv 6 "is_fence" 5 f_is_fence) (c_law_drawn : CallOk P w K mg base cv 2 "_law_drawn" 3 f_law_drawn) (c_are_one : CallOk P w K mg base cv 6 "are_one" 4 f_are_one) (c_is_way : CallOk P w K mg base cv 6 "is_way" 5 f_is_way) (Fn : Fun K "law" "law" s_law_k21 f fd) : FnOk P w K mg base (CX1 P w cv) 7 f fd p_law_k21 (spD K cv 1 f_law_k21) :=
  fn_D (N := n_law_k21) (ps := p_law_k21) (τ := τ_law_k21) Fn sc_law_k21 fun cdv A outer s H E hr => by
    obtain ⟨hbx⟩ : Box (PSDs (cxOf (CX1 P w cv) P w K mg base n_law_k21 "law" (defScope s_law_k21) f cdv A outer s H E) (fun n H' => E (cv n) none H') (defBody s_law_k21) τ_law_k21) := (bx_seq (st_law_k21_0 B c_law_board hr) (bx_seq (st_law_k21_1 B c_cells hr) (bx_seq (st_law_k21_2 B c_law_drawn hr) (bx_seq (st_law_k21_3 B c_way c_patch_of c_is_fence c_are_one c_is_way hr) (bx_seq (st_law_k21_4 B c_way hr) (bx_one (st_law_k21_5 B c_way hr)))))))
    assumption
end
end K1


set_option Elab.async false
set_option linter.all false
set_option maxRecDepth 100000
namespace K1
open PySem L2 L3
theorem mkLst_ok {ds : List D} (h : ds.length ≤ lim) : mkLst ds = M.ret (.lst ds) := if_pos h
theorem limv : lim = 4096 := rfl
theorem atI_nat' {α : Type} {xs : List α} {i : Nat} {x : α} (h : xs[i]? = some x) : L2.atI xs (i : Int) = some x := by
  obtain ⟨hi, e⟩ := List.getElem?_eq_some_iff.mp h
  unfold L2.atI ixN
  rw [if_pos (Int.natCast_nonneg i), if_pos (by exact Int.ofNat_lt.mpr hi)]
  exact h
theorem callF_val {m : Nat} {g : List D → M D} {δs : DA} {ρ : Rho} {ds : List D} (h : δs ρ = M.ret ds) (hl : ds.length = m) : callF m g δs ρ = g ds := by
  unfold callF
  rw [h]
  exact if_pos hl
theorem aC_val {a : DE} {r : DA} {ρ : Rho} {x : D} {xs : List D} (h1 : a ρ = M.ret x) (h2 : r ρ = M.ret xs) : aC a r ρ = M.ret (x :: xs) := by
  unfold aC
  rw [h1, bind_ret, h2]
  rfl
theorem d2_val {g : D → D → M D} {a b : DE} {ρ : Rho} {x y : D} (h1 : a ρ = M.ret x) (h2 : b ρ = M.ret y) : d2 g a b ρ = g x y := by
  unfold d2
  rw [h1, bind_ret, h2]
  rfl
theorem dA_val {g : List D → M D} {a : DA} {ρ : Rho} {xs : List D} (h : a ρ = M.ret xs) : dA g a ρ = g xs := by
  unfold dA
  rw [h]
  rfl
theorem gMod_val {i j : Int} (h : 0 < j) : gMod (.int i) (.int j) = M.ret (.int (i % j)) := by
  show (if decide (0 < j) = true then _ else _) = _
  rw [if_pos (decide_eq_true h)]
theorem gDiv_val {i j : Int} (h : 0 < j) (h2 : j < 1073741824) : gDiv (.int i) (.int j) = M.ret (.int (i / j)) := by
  show (if decide (0 < j ∧ j < 1073741824) = true then _ else _) = _
  rw [if_pos (decide_eq_true ⟨h, h2⟩)]
theorem gMul_val {i j : Int} (h : (-(2 ^ 64) < i ∧ i < 2 ^ 64) ∨ (-(2 ^ 64) < j ∧ j < 2 ^ 64)) : gMul (.int i) (.int j) = M.ret (.int (i * j)) := by
  show (if decide _ = true then _ else _) = _
  rw [if_pos (decide_eq_true h)]
theorem gAdd_val {i j : Int} : gAdd (.int i) (.int j) = M.ret (.int (i + j)) := rfl
theorem cell_val (ns : List Int) (hl : ns.length ≤ 63) (k : Nat) : ∃ v, f_law_cell [.scr ns, .int (k : Int)] = M.ret (.int v) := by
  cases ns with
  | nil =>
    refine ⟨7 * (k : Int), ?_⟩
    rfl
  | cons n r =>
    have hp : 0 < (n :: r).length := Nat.succ_pos _
    generalize e : (n :: r) = ns at *
    have he : eqF 6 (.scr ns) (.lst []) = some false := by subst e; rfl
    obtain ⟨y, hy⟩ : ∃ y, ns[k % ns.length]? = some y := ⟨_, List.getElem?_eq_getElem (Nat.mod_lt _ hp)⟩
    have hp' : (0 : Int) < (ns.length : Int) := by omega
    have h1 : gMod (.int (k : Int)) (.int (ns.length : Int)) = M.ret (.int ((k % ns.length : Nat) : Int)) := gMod_val hp'
    have h2 : gDiv (.int (k : Int)) (.int (ns.length : Int)) = M.ret (.int ((k : Int) / (ns.length : Int))) := gDiv_val hp' (by omega)
    have h3 : gIxP (.scr ns) (.int ((k % ns.length : Nat) : Int)) = M.ret (.int y) := by
      show (match L2.atI ns ((k % ns.length : Nat) : Int) with | some n => M.ret (D.int n) | none => M.stuck) = _
      rw [atI_nat' hy]
    have h4 : gMul (.int 6553) (.int ((k : Int) / (ns.length : Int))) = M.ret (.int (6553 * ((k : Int) / (ns.length : Int)))) := gMul_val (.inl ⟨by decide, by decide⟩)
    refine ⟨y + 6553 * ((k : Int) / (ns.length : Int)), ?_⟩
    simp only [f_law_cell, τ_law_cell, runD, sSeq, sIf, sRet, sNil, tB', d2, dV, dC, dA, aC, aN, mkLst, lenM, blM, gEq, he, bind_ret, h1, h2, h3, h4, List.map_cons, List.map_nil, List.cons_append, List.nil_append, List.length_cons, List.length_nil, List.getElem?_cons_zero, List.getElem?_cons_succ, limv, Nat.reduceAdd, Nat.zero_le, if_true, Bool.false_eq_true, if_false, gAdd, gI]
theorem drawn_val (ns : List Int) (hl : ns.length ≤ 63) (k m : Nat) (hm : 0 < m) : ∃ v : Nat, v < m ∧ f_law_drawn [.scr ns, .int (k : Int), .int (m : Int)] = M.ret (.int (v : Int)) := by
  obtain ⟨c, hc⟩ := cell_val ns hl k
  have b1 := Int.emod_nonneg (c % 2147483563 * 69069 + 104723 * ((k : Int) + 1)) (b := 2147483563) (by decide)
  have b2 := Int.emod_lt_of_pos (c % 2147483563 * 69069 + 104723 * ((k : Int) + 1)) (b := 2147483563) (by decide)
  generalize hx : (c % 2147483563 * 69069 + 104723 * ((k : Int) + 1)) % 2147483563 = x at b1 b2
  have b3 := Int.emod_nonneg (x * x + x / 3) (b := 2147483399) (by decide)
  have b4 := Int.emod_lt_of_pos (x * x + x / 3) (b := 2147483399) (by decide)
  generalize hy : (x * x + x / 3) % 2147483399 = y at b3 b4
  have m1 : gMul (.int (c % 2147483563)) (.int 69069) = _ := gMul_val (.inr ⟨by decide, by decide⟩)
  have m2 : gMul (.int 104723) (.int ((k : Int) + 1)) = _ := gMul_val (.inl ⟨by decide, by decide⟩)
  have m3 : gMul (.int x) (.int x) = _ := gMul_val (.inl ⟨by omega, by omega⟩)
  have m4 : gMul (.int y) (.int y) = _ := gMul_val (.inl ⟨by omega, by omega⟩)
  have hM : (0 : Int) < (m : Int) := Int.ofNat_lt.mpr hm
  have n1 := Int.emod_nonneg ((y * y + y / 7) % 2147483647 / 11) (b := (m : Int)) (by omega)
  have n2 := Int.emod_lt_of_pos ((y * y + y / 7) % 2147483647 / 11) hM
  have q1 : gMod (.int c) (.int 2147483563) = _ := gMod_val (by decide)
  have q2 : gMod (.int (c % 2147483563 * 69069 + 104723 * ((k : Int) + 1))) (.int 2147483563) = _ := gMod_val (by decide)
  have q3 : gDiv (.int x) (.int 3) = _ := gDiv_val (by decide) (by decide)
  have q4 : gMod (.int (x * x + x / 3)) (.int 2147483399) = _ := gMod_val (by decide)
  have q5 : gDiv (.int y) (.int 7) = _ := gDiv_val (by decide) (by decide)
  have q6 : gMod (.int (y * y + y / 7)) (.int 2147483647) = _ := gMod_val (by decide)
  have q7 : gDiv (.int ((y * y + y / 7) % 2147483647)) (.int 11) = _ := gDiv_val (by decide) (by decide)
  have q8 : gMod (.int ((y * y + y / 7) % 2147483647 / 11)) (.int (m : Int)) = _ := gMod_val hM
  refine ⟨((y * y + y / 7) % 2147483647 / 11 % (m : Int)).toNat, by omega, ?_⟩
  rw [Int.toNat_of_nonneg n1]
  rw [hx] at q2
  rw [hy] at q4
  simp only [f_law_drawn, τ_law_drawn, runD, sSeq, sSet, sRet, callF, d2, dV, dC, dA, aC, aN, bind_ret, hc, List.map_cons, List.map_nil, List.cons_append, List.nil_append, List.length_cons, List.length_nil, List.getElem?_cons_zero, List.getElem?_cons_succ, List.replicate, List.set_cons_zero, List.set_cons_succ, Nat.reduceAdd, Nat.reduceSub, if_true, gAdd_val, m1, m2, m3, m4, q1, q2, q3, q4, q5, q6, q7, q8]
theorem noex_ret {α : Type} (a : α) : noex (M.ret a) = M.ret a := rfl
theorem forL_inv {put : D → Rho → Option Rho} {body : DS} {I : Nat → Rho → Prop} : ∀ (ds : List D) (i : Nat) (ρ : Rho), I i ρ →
    (∀ j d, ds[j]? = some d → ∀ ρ, I (i + j) ρ → ∃ ρ1 ρ2, put d ρ = some ρ1 ∧ body ρ1 = M.ret (.nx ρ2) ∧ I (i + j + 1) ρ2) → ∃ ρ', forL put body ds ρ = M.ret (.nx ρ') ∧ I (i + ds.length) ρ'
  | [], i, ρ, h, _ => ⟨ρ, rfl, h⟩
  | d :: ds, i, ρ, h, step => by
    obtain ⟨ρ1, ρ2, e1, e2, h2⟩ := step 0 d rfl ρ h
    obtain ⟨ρ', e3, h3⟩ := forL_inv (I := I) ds (i + 1) ρ2 h2 fun j d' hd ρ hI => by
      have := step (j + 1) d' hd ρ (by rw [show i + (j + 1) = i + 1 + j by omega]; exact hI)
      rw [show i + (j + 1) + 1 = i + 1 + j + 1 by omega] at this
      exact this
    refine ⟨ρ', ?_, ?_⟩
    · show (match put d ρ with | none => M.stuck | some ρ1 => body ρ1 >>= fun o => match o with | .nx ρ2 => forL put body ds ρ2 | .rt v => M.ret (.rt v)) = _
      rw [e1]
      show (body ρ1 >>= fun o => match o with | .nx ρ2 => forL put body ds ρ2 | .rt v => M.ret (.rt v)) = _
      rw [e2]
      exact e3
    · rw [show i + (d :: ds).length = i + 1 + ds.length by simp; omega]
      exact h3
theorem compL_all {f : D → M (Option D)} {Pr : D → Prop} : ∀ (ds : List D), (∀ d ∈ ds, ∃ y, f d = M.ret (some y) ∧ Pr y) → ∃ ys, compL f ds = M.ret ys ∧ ys.length = ds.length ∧ ∀ y ∈ ys, Pr y
  | [], _ => ⟨[], rfl, rfl, fun _ h => by cases h⟩
  | d :: ds, h => by
    obtain ⟨y, e, hy⟩ := h d (List.mem_cons_self ..)
    obtain ⟨ys, e2, hl, hp⟩ := compL_all ds fun d' hd => h d' (List.mem_cons_of_mem _ hd)
    refine ⟨y :: ys, ?_, by simp [hl], fun z hz => ?_⟩
    · rw [compL_cons, e, bind_ret, e2]
      rfl
    · cases hz with
      | head => exact hy
      | tail _ hz => exact hp z hz
theorem compL_map {f : D → M (Option D)} {g : D → D} : ∀ (ds : List D), (∀ d ∈ ds, f d = M.ret (some (g d))) → compL f ds = M.ret (ds.map g)
  | [], _ => rfl
  | d :: ds, h => by
    rw [compL_cons, h d (List.mem_cons_self ..), bind_ret, compL_map ds fun d' hd => h d' (List.mem_cons_of_mem _ hd)]
    rfl
def inL (x : Str) : Bool := !(Builtin.Str.occurrences ("abcdef" : Str) x 0 ("abcdef" : Str).length 1).isEmpty
structure Row (W : Nat) (r : Str) : Prop where
  len : r.length = W
  let' : ∀ c ∈ r.cps.toList, inL ⟨#[c]⟩ = true
structure Good (bd : List Str) (W : Nat) : Prop where
  r1 : 1 ≤ bd.length
  r5 : bd.length ≤ 5
  w1 : 1 ≤ W
  w5 : W ≤ 5
  rows : ∀ r ∈ bd, Row W r
theorem txts_all : ∀ (ys : List D), (∀ y ∈ ys, ∃ c, y = .str ⟨#[c]⟩ ∧ inL ⟨#[c]⟩ = true) → ∃ xs, txts ys = some xs ∧ xs.length = ys.length ∧ (xs.map (·.length)).sum = ys.length ∧ Row ys.length (catS xs)
  | [], _ => ⟨[], rfl, rfl, rfl, rfl, fun c h => by cases h⟩
  | y :: ys, h => by
    obtain ⟨c, e, hc⟩ := h y (List.mem_cons_self ..)
    obtain ⟨xs, e1, e2, e3, e4⟩ := txts_all ys fun z hz => h z (List.mem_cons_of_mem _ hz)
    subst e
    refine ⟨⟨#[c]⟩ :: xs, ?_, by simp [e2], ?_, ?_, fun z hz => ?_⟩
    · show (txts ys).map _ = _
      rw [e1]
      rfl
    · rw [List.map_cons, List.sum_cons, e3]
      show 1 + ys.length = _
      simp
      omega
    · show ((⟨#[c]⟩ : Str) ++ catS xs).length = _
      rw [str_len_append, e4.len]
      show 1 + ys.length = _
      simp
      omega
    · have hz : z ∈ ((⟨#[c]⟩ : Str) ++ catS xs).cps.toList := hz
      have : ((⟨#[c]⟩ : Str) ++ catS xs).cps = #[c] ++ (catS xs).cps := rfl
      rw [this] at hz
      have hz : z ∈ c :: (catS xs).cps.toList := by simpa using hz
      cases hz with
      | head => exact hc
      | tail _ hz => exact e4.let' z hz
theorem rngL_mem {lo : Int} {n : Nat} {d : D} (h : d ∈ rngL lo n) : ∃ i : Nat, i < n ∧ d = .int (lo + (i : Int)) := by
  unfold rngL at h
  obtain ⟨i, hi, e⟩ := List.mem_map.mp h
  exact ⟨i, List.mem_range.mp hi, e.symm⟩
theorem rngL_at {lo : Int} {n j : Nat} {d : D} (h : (rngL lo n)[j]? = some d) : j < n ∧ d = .int (lo + (j : Int)) := by
  unfold rngL at h
  rw [List.getElem?_map] at h
  by_cases hj : j < n
  · rw [List.getElem?_range hj] at h
    cases h
    exact ⟨hj, rfl⟩
  · rw [List.getElem?_eq_none (by simpa using hj)] at h
    cases h
theorem rngL_len (lo : Int) (n : Nat) : (rngL lo n).length = n := by simp [rngL]
abbrev fz (d : D) : Option Sl := some (.fz d)
theorem compF0 {δe : DE} {ρ : Rho} {d : D} : compF 0 dTrue δe ρ d = (δe (fz d :: ρ) >>= fun y => M.ret (some y)) := rfl
theorem compFt {δt : DT} {δe : DE} {ρ : Rho} {d : D} : compF 0 δt δe ρ d = (δt (fz d :: ρ) >>= fun b => if b then δe (fz d :: ρ) >>= fun y => M.ret (some y) else M.ret none) := rfl
theorem sSeq_nx {a b : DS} {ρ ρ' : Rho} {o : M Out} (h : a ρ = M.ret (.nx ρ')) (h2 : b ρ' = o) : sSeq a b ρ = o := by
  unfold sSeq
  rw [h]
  exact h2
theorem sSeq_rt {a b : DS} {ρ : Rho} {d : D} (h : a ρ = M.ret (.rt d)) : sSeq a b ρ = M.ret (.rt d) := by
  unfold sSeq
  rw [h]
  rfl
theorem sSet_val {i : Nat} {δ : DE} {ρ : Rho} {d : D} (h : δ ρ = M.ret d) : sSet i δ ρ = M.ret (.nx (ρ.set i (fz d))) := by
  unfold sSet
  rw [h]
  rfl
theorem sIf_T {c : DT} {a b : DS} {ρ : Rho} {o : M Out} (h : c ρ = M.ret true) (h2 : a ρ = o) : sIf c a b ρ = o := by
  unfold sIf
  rw [h]
  exact h2
theorem sIf_F {c : DT} {a b : DS} {ρ : Rho} {o : M Out} (h : c ρ = M.ret false) (h2 : b ρ = o) : sIf c a b ρ = o := by
  unfold sIf
  rw [h]
  exact h2
theorem sRet_val {δ : DE} {ρ : Rho} {d : D} (h : δ ρ = M.ret d) : sRet δ ρ = M.ret (.rt d) := by
  unfold sRet
  rw [h]
  rfl
theorem sExp_val {δ : DE} {ρ : Rho} {d : D} (h : δ ρ = M.ret d) : sExp δ ρ = M.ret (.nx ρ) := by
  unfold sExp
  rw [h]
  rfl
theorem runD_rt {n : Nat} {τ : DS} {ds : List D} {d : D} (h : τ (ds.map (fun d => some (Sl.fz d)) ++ List.replicate (n - ds.length) none) = M.ret (.rt d)) : runD n τ ds = M.ret d := by
  unfold runD
  rw [h]
  rfl
theorem runD_nx {n : Nat} {τ : DS} {ds : List D} {ρ : Rho} (h : τ (ds.map (fun d => some (Sl.fz d)) ++ List.replicate (n - ds.length) none) = M.ret (.nx ρ)) : runD n τ ds = M.ret .non := by
  unfold runD
  rw [h]
  rfl
theorem sFor_val {put : D → Rho → Option Rho} {δi : DA} {b : DS} {ρ : Rho} {ds : List D} {o : Out} (h : δi ρ = M.ret ds) (h2 : forL put b ds ρ = M.ret o) : noex (sFor put δi b ρ) = M.ret o := by
  unfold sFor
  rw [h, bind_ret, h2]
  rfl
theorem sFgt_nx {is : List Nat} {τ : DS} {ρ ρ' : Rho} (h : τ ρ = M.ret (.nx ρ')) : sFgt is τ ρ = M.ret (.nx (fgt is ρ')) := by
  unfold sFgt
  rw [h]
  rfl
theorem sFgt_rt {is : List Nat} {τ : DS} {ρ : Rho} {d : D} (h : τ ρ = M.ret (.rt d)) : sFgt is τ ρ = M.ret (.rt d) := by
  unfold sFgt
  rw [h]
  rfl
theorem dComp_val {n : Nat} {δi : DA} {δt : DT} {δe : DE} {ρ : Rho} {ds ys : List D} (h : δi ρ = M.ret ds) (h2 : compL (compF n δt δe ρ) ds = M.ret ys) (h3 : ys.length ≤ lim) : dComp n δi δt δe ρ = M.ret (.lst ys) := by
  unfold dComp
  rw [h, bind_ret, h2, noex_ret, bind_ret, mkLst_ok h3]
theorem rngM1_val {n : Nat} (h : n ≤ 4096) : rngM1 [.int (n : Int)] = M.ret (rngL 0 n) := by
  show (if -4096 ≤ (n : Int) ∧ (n : Int) ≤ 4096 then M.ret (rngL 0 (n : Int).toNat) else M.stuck) = _
  rw [if_pos ⟨by omega, by omega⟩]
  rfl
structure Alpha (al : Str) : Prop where
  pos : 0 < al.length
  ok : ∀ c ∈ al.cps.toList, inL ⟨#[c]⟩ = true
theorem alphas : Alpha "ab" ∧ Alpha "abc" ∧ Alpha "aab" ∧ Alpha "fa" := by
  refine ⟨⟨by decide +kernel, ?_⟩, ⟨by decide +kernel, ?_⟩, ⟨by decide +kernel, ?_⟩, ⟨by decide +kernel, ?_⟩⟩ <;> decide +kernel
theorem gIxS_val {x : Str} {i : Nat} (h : i < x.length) : ∃ c, c ∈ x.cps.toList ∧ x.cps.toList[i]? = some c ∧ gIxS (.str x) (.int (i : Int)) = M.ret (.str ⟨#[c]⟩) := by
  have h : i < x.cps.toList.length := by rw [Array.length_toList]; exact h
  refine ⟨x.cps.toList[i], List.getElem_mem h, List.getElem?_eq_getElem h, ?_⟩
  show (match L2.atI x.cps.toList (i : Int) with | some c => M.ret (D.str ⟨#[c]⟩) | none => M.stuck) = _
  rw [atI_nat' (List.getElem?_eq_getElem h)]
abbrev brd (bd : List Str) : D := .tup (bd.map D.str)
abbrev sgn (at' mo : Nat) (ns : List Int) (W : Nat) (al : Str) (bd : List Str) (R : Nat) (x7 x8 : Option Sl) : Rho := [fz (.scr ns), fz (.int (at' : Int)), fz (.int (mo : Int)), fz (.int (R : Int)), fz (.int (W : Int)), fz (.str al), fz (brd bd), x7, x8]
def δsg : DE := dComp 0 (fun ρ => (aC (dV 4) aN) ρ >>= rngM1) dTrue (d2 gIxS (dV 6) (callF 3 f_law_drawn (aC (dV 1) (aC (d2 gAdd (d2 gAdd (d2 gAdd (dV 2) (dC (.int 3))) (d2 gMul (dC (.int 7)) (dV 8))) (dV 0)) (aC (dA lenM (aC (dV 6) aN)) aN)))))
theorem signs_val (at' mo : Nat) (ns : List Int) (hl : ns.length ≤ 63) (al : Str) (ha : Alpha al) (j W R : Nat) (hW : W ≤ 5) (bd : List Str) (x8 : Option Sl) :
    ∃ ys, δsg (sgn at' mo ns W al bd R (fz (.int (0 + (j : Int)))) x8) = M.ret (.lst ys) ∧ ys.length = W ∧ ∀ y ∈ ys, ∃ c, y = .str ⟨#[c]⟩ ∧ inL ⟨#[c]⟩ = true := by
  obtain ⟨ys, e, hl', hp⟩ := compL_all (f := compF 0 dTrue (d2 gIxS (dV 6) (callF 3 f_law_drawn (aC (dV 1) (aC (d2 gAdd (d2 gAdd (d2 gAdd (dV 2) (dC (.int 3))) (d2 gMul (dC (.int 7)) (dV 8))) (dV 0)) (aC (dA lenM (aC (dV 6) aN)) aN)))))
      (sgn at' mo ns W al bd R (fz (.int (0 + (j : Int)))) x8)) (Pr := fun y => ∃ c, y = .str ⟨#[c]⟩ ∧ inL ⟨#[c]⟩ = true) (rngL 0 W) fun d hd => by
    obtain ⟨i, hi, rfl⟩ := rngL_mem hd
    obtain ⟨v, hv, e⟩ := drawn_val ns hl (at' + 3 + 7 * j + i) al.length ha.pos
    obtain ⟨c, hc, _, e2⟩ := gIxS_val hv
    refine ⟨.str ⟨#[c]⟩, ?_, c, rfl, ha.ok c hc⟩
    rw [compF0]
    have k : (at' : Int) + 3 + 7 * (0 + (j : Int)) + (0 + (i : Int)) = ((at' + 3 + 7 * j + i : Nat) : Int) := by omega
    have m1 : gMul (.int 7) (.int (0 + (j : Int))) = M.ret (.int (7 * (0 + (j : Int)))) := gMul_val (.inl ⟨by decide, by decide⟩)
    simp only [callF, d2, dV, dC, dA, aC, aN, bind_ret, List.length_cons, List.length_nil, List.getElem?_cons_zero, List.getElem?_cons_succ, Nat.reduceAdd, if_true, gAdd_val, m1, k, lenM, e, e2]
  refine ⟨ys, dComp_val (rngM1_val (n := W) (by omega)) e (by rw [hl', rngL_len, limv]; omega), by rw [hl', rngL_len], hp⟩
def τct : DS := sSet 6 (d2 gCatT (dV 6) (dA mkTup (aC (dM isS joinM (dC (.str "")) (aC (dV 8) aN)) aN)))
theorem cat_val (at' mo : Nat) (ns : List Int) (W : Nat) (al : Str) (bd : List Str) (R : Nat) (x7 : Option Sl) (ys : List D) (hb : bd.length ≤ 5) (hy : ys.length ≤ 5) (s3 : ∀ y ∈ ys, ∃ c, y = .str ⟨#[c]⟩ ∧ inL ⟨#[c]⟩ = true) :
    ∃ r, Row ys.length r ∧ τct (sgn at' mo ns W al bd R x7 (fz (.lst ys))) = M.ret (.nx (sgn at' mo ns W al (bd ++ [r]) R x7 (fz (.lst ys)))) := by
  obtain ⟨xs, t1, t2, t3, t4⟩ := txts_all ys s3
  refine ⟨catS xs, t4, ?_⟩
  have jn : joinM (.str "") [.lst ys] = M.ret (.str (catS xs)) := by
    show (match txts ys with | some (xs : List Str) => if ("" : Str).length = 0 ∧ (xs.map (fun x : Str => x.length)).sum ≤ lim then M.ret (D.str (catS xs)) else M.stuck | none => M.stuck) = _
    rw [t1]
    show (if ("" : Str).length = 0 ∧ (xs.map (fun x : Str => x.length)).sum ≤ lim then M.ret (D.str (catS xs)) else M.stuck) = _
    rw [if_pos ⟨rfl, by rw [t3, limv]; omega⟩]
  have ct : gCatT (brd bd) (.tup [.str (catS xs)]) = M.ret (brd (bd ++ [catS xs])) := by
    show (if (bd.map D.str).length + 1 ≤ lim then M.ret (D.tup (bd.map D.str ++ [.str (catS xs)])) else M.stuck) = _
    rw [if_pos (by rw [List.length_map, limv]; omega)]
    simp [brd]
  refine (sSet_val (d := brd (bd ++ [catS xs])) ?_).trans rfl
  simp only [d2, dV, dC, dA, aC, aN, dM, isS, bind_ret, List.getElem?_cons_zero, List.getElem?_cons_succ, if_true, jn, mkTup, List.length_cons, List.length_nil, limv, Nat.reduceAdd, Nat.reduceLeDiff, ct]
theorem board_val (ns : List Int) (hl : ns.length ≤ 63) (at' mo : Nat) (m0 : 0 < mo) (m5 : mo ≤ 5) : ∃ bd W, Good bd W ∧ f_law_board [.scr ns, .int (at' : Int), .int (mo : Int)] = M.ret (brd bd) := by
  obtain ⟨r, hr, e1⟩ := drawn_val ns hl at' mo m0
  obtain ⟨c, hc, e2⟩ := drawn_val ns hl (at' + 1) mo m0
  obtain ⟨a, ha, e3⟩ := drawn_val ns hl (at' + 2) 4 (by decide)
  obtain ⟨al, hal, e4⟩ : ∃ al, Alpha al ∧ gIxL (.lst [.str "ab", .str "abc", .str "aab", .str "fa"]) (.int (a : Int)) = M.ret (.str al) := by
    obtain ⟨a1, a2, a3, a4⟩ := alphas
    match a, ha with
    | 0, _ => exact ⟨_, a1, rfl⟩
    | 1, _ => exact ⟨_, a2, rfl⟩
    | 2, _ => exact ⟨_, a3, rfl⟩
    | 3, _ => exact ⟨_, a4, rfl⟩
  have k1 : (1 : Int) + (r : Int) = ((r + 1 : Nat) : Int) := by omega
  have k2 : (1 : Int) + (c : Int) = ((c + 1 : Nat) : Int) := by omega
  have e1' : f_law_drawn [.scr ns, .int (at' : Int), .int (mo : Int)] = M.ret (.int (r : Int)) := e1
  have e2' : f_law_drawn [.scr ns, .int ((at' : Int) + 1), .int (mo : Int)] = M.ret (.int (c : Int)) := e2
  have e3' : f_law_drawn [.scr ns, .int ((at' : Int) + 2), .int 4] = M.ret (.int (a : Int)) := e3
  obtain ⟨ρ', f1, bd, f2, f3, f4⟩ := forL_inv (put := putN 7) (body := sFgt [7, 8] (sSeq (sSet 8 δsg) τct))
    (I := fun i ρ => ∃ bd, ρ = sgn at' mo ns (c + 1) al bd (r + 1) none none ∧ bd.length = i ∧ ∀ z ∈ bd, Row (c + 1) z)
    (rngL 0 (r + 1)) 0 (sgn at' mo ns (c + 1) al [] (r + 1) none none) ⟨[], rfl, rfl, fun _ h => by cases h⟩ fun j d hd ρ ⟨bd, hρ, hb, hw⟩ => by
      obtain ⟨hj, rfl⟩ := rngL_at hd
      subst hρ
      obtain ⟨ys, s1, s2, s3⟩ := signs_val at' mo ns hl al hal j (c + 1) (r + 1) (by omega) bd none
      obtain ⟨rw', t1, t2⟩ := cat_val at' mo ns (c + 1) al bd (r + 1) (fz (.int (0 + (j : Int)))) ys (by omega) (by omega) s3
      refine ⟨_, _, rfl, sFgt_nx (sSeq_nx (sSet_val s1) t2), bd ++ [rw'], rfl, by simp [hb], fun z hz => ?_⟩
      rcases List.mem_append.mp hz with h | h
      · exact hw z h
      · have h : z = rw' := by simpa using h
        subst h
        rw [s2] at t1
        exact t1
  refine ⟨bd, c + 1, ⟨by rw [f3, rngL_len]; omega, by rw [f3, rngL_len]; omega, by omega, by omega, f4⟩, ?_⟩
  subst f2
  refine runD_rt ?_
  refine sSeq_nx (sSet_val (d := .int ((r + 1 : Nat) : Int)) ?_) ?_
  · simp only [callF, d2, dV, dC, aC, aN, bind_ret, List.map_cons, List.map_nil, List.cons_append, List.nil_append, List.length_cons, List.length_nil, List.getElem?_cons_zero, List.getElem?_cons_succ, Nat.reduceAdd, if_true, gAdd_val, e1', k1]
  refine sSeq_nx (sSet_val (d := .int ((c + 1 : Nat) : Int)) ?_) ?_
  · simp only [callF, d2, dV, dC, aC, aN, bind_ret, List.map_cons, List.map_nil, List.cons_append, List.nil_append, List.length_cons, List.length_nil, List.replicate, List.set_cons_zero, List.set_cons_succ, Nat.reduceSub, List.getElem?_cons_zero, List.getElem?_cons_succ, Nat.reduceAdd, if_true, gAdd_val, e2', k2]
  refine sSeq_nx (sSet_val (d := .str al) ?_) ?_
  · simp only [callF, d2, dV, dC, dA, aC, aN, bind_ret, List.map_cons, List.map_nil, List.cons_append, List.nil_append, List.length_cons, List.length_nil, List.replicate, List.set_cons_zero, List.set_cons_succ, Nat.reduceSub, List.getElem?_cons_zero, List.getElem?_cons_succ, Nat.reduceAdd, if_true, gAdd_val, e3', mkLst, limv, Nat.reduceLeDiff, e4]
  refine sSeq_nx (sSet_val (d := .tup []) rfl) ?_
  refine sSeq_nx (sFor_val (rngM1_val (n := r + 1) (by omega)) f1) ?_
  exact sRet_val rfl
def Plain : D → Prop
  | .non | .bl _ | .int _ | .str _ | .tup _ | .lst _ => True
  | _ => False
def isStr : D → Bool
  | .str _ => true
  | _ => false
def isTup : D → Bool
  | .tup _ => true
  | _ => false
theorem isi_str {d : D} (h : Plain d) : isiM [d, .raw (.ty "str")] = M.ret (.bl (isStr d)) := by
  cases d <;> first | rfl | exact h.elim
theorem isi_tup {d : D} (h : Plain d) : isiM [d, .raw (.ty "tuple")] = M.ret (.bl (isTup d)) := by
  cases d <;> first | rfl | exact h.elim
def letD : D → Bool
  | .str x => (x.length == 1) && inL x
  | _ => false
theorem dV_val {ρ : Rho} {i : Nat} {d : D} (h : ρ[i]? = some (fz d)) : dV i ρ = M.ret d := by
  unfold dV
  rw [h]
theorem eq_int (i j : Int) : gEq (.int i) (.int j) = M.ret (.bl (i == j)) := rfl
theorem ne_int (i j : Int) : gNe (.int i) (.int j) = M.ret (.bl (!(i == j))) := rfl
theorem len_str (x : Str) : lenM [.str x] = M.ret (.int (x.length : Int)) := rfl
theorem in_str (x : Str) : gInS false (.str x) (.str "abcdef") = M.ret (.bl (inL x)) := rfl
theorem natEq (a b : Nat) : ((a : Int) == (b : Int)) = (a == b) := by
  by_cases h : a = b
  · subst h; simp
  · have h2 : ¬ (a : Int) = (b : Int) := by omega
    rw [beq_eq_false_iff_ne.mpr h, beq_eq_false_iff_ne.mpr h2]
theorem let_val {d : D} (h : Plain d) {i : Nat} {ρ : Rho} (hρ : ρ[i]? = some (fz d)) :
    dAndV (dA isiM (aC (dV i) (aC (dC (.raw (.ty "str"))) aN))) (dAndV (d2 gEq (dA lenM (aC (dV i) aN)) (dC (.int 1))) (d2 (gInS false) (dV i) (dC (.str "abcdef")))) ρ = M.ret (.bl (letD d)) := by
  have hv := dV_val hρ
  have e1 := natEq
  cases d with
  | str x =>
    have k : ((x.length : Int) == 1) = (x.length == 1) := natEq x.length 1
    simp only [dAndV, dA, aC, aN, dC, d2, hv, bind_ret, isi_str h, isStr, blM, if_true, len_str, eq_int, k, in_str, letD]
    cases x.length == 1 <;> rfl
  | non => simp only [dAndV, dA, aC, aN, dC, d2, hv, bind_ret, isi_str h, isStr, blM, if_false, Bool.false_eq_true, letD]
  | bl b => simp only [dAndV, dA, aC, aN, dC, d2, hv, bind_ret, isi_str h, isStr, blM, if_false, Bool.false_eq_true, letD]
  | int b => simp only [dAndV, dA, aC, aN, dC, d2, hv, bind_ret, isi_str h, isStr, blM, if_false, Bool.false_eq_true, letD]
  | tup b => simp only [dAndV, dA, aC, aN, dC, d2, hv, bind_ret, isi_str h, isStr, blM, if_false, Bool.false_eq_true, letD]
  | lst b => simp only [dAndV, dA, aC, aN, dC, d2, hv, bind_ret, isi_str h, isStr, blM, if_false, Bool.false_eq_true, letD]
  | raw _ => exact h.elim
  | exc _ => exact h.elim
  | scr _ => exact h.elim
  | dct _ _ => exact h.elim
  | dci _ _ => exact h.elim
theorem is_letter_val {d : D} (h : Plain d) : f_is_letter [d] = M.ret (.bl (letD d)) := runD_rt (sRet_val (let_val h rfl))
def letters (x : Str) : Bool := x.cps.toList.all fun c => inL ⟨#[c]⟩
def rowD : D → Bool
  | .str x => (decide (1 ≤ x.length) && decide (x.length ≤ 8)) && letters x
  | _ => false
theorem bools_map (l : List Bool) : bools (l.map D.bl) = some l := by
  induction l with
  | nil => rfl
  | cons b r ih => show (bools (r.map D.bl)).map _ = _; rw [ih]; rfl
theorem all_map (l : List Bool) : allM [.lst (l.map D.bl)] = M.ret (.bl (l.all id)) := by
  show (match bools (l.map D.bl) with | some bs => M.ret (D.bl (bs.all id)) | none => M.stuck) = _
  rw [bools_map]
theorem ch_val {δ : DE} {ρ : Rho} {n : Nat} (h : δ ρ = M.ret (.int (n : Int))) :
    tB' (chI (fun i j => decide (i ≤ j)) (fun i j => decide (i ≤ j)) (dC (.int 1)) δ (dC (.int 8))) ρ = M.ret (decide (1 ≤ n) && decide (n ≤ 8)) := by
  have k1 : decide ((1 : Int) ≤ (n : Int)) = decide (1 ≤ n) := by by_cases h : 1 ≤ n <;> simp [h] <;> omega
  have k2 : decide ((n : Int) ≤ 8) = decide (n ≤ 8) := by by_cases h : n ≤ 8 <;> simp [h] <;> omega
  simp only [tB', chI, dC, h, bind_ret, k1, k2, gI, blM]
  cases decide (1 ≤ n) <;> rfl
theorem is_row_val {d : D} (h : Plain d) : f_is_row [d] = M.ret (.bl (rowD d)) := by
  refine runD_rt ?_
  have hρ : ([d].map (fun d => some (Sl.fz d)) ++ List.replicate (1 - [d].length) none) = [fz d] := rfl
  rw [hρ]
  have hv : dV 0 [fz d] = M.ret d := rfl
  have no : isStr d = false → τ_is_row [fz d] = M.ret (.rt (.bl false)) := fun hs => by
    refine sSeq_rt (sIf_T ?_ (sRet_val rfl))
    simp only [dOr, dNot, dTru, dA, aC, aN, dC, hv, bind_ret, isi_str h, hs, truM, Bool.not_false, if_true]
  cases d with
  | str x =>
    have hi : dTru (dA isiM (aC (dV 0) (aC (dC (.raw (.ty "str"))) aN))) [fz (.str x)] = M.ret true := by
      simp only [dTru, dA, aC, aN, dC, hv, bind_ret, isi_str h, isStr, truM]
    have hl : dA lenM (aC (dV 0) aN) [fz (.str x)] = M.ret (.int (x.length : Int)) := rfl
    have hc := ch_val hl
    by_cases hr : (decide (1 ≤ x.length) && decide (x.length ≤ 8)) = true
    · rw [hr] at hc
      refine sSeq_nx (sIf_F ?_ (ρ := [fz (.str x)]) rfl) (sRet_val ?_)
      · unfold dOr dNot
        rw [hi, bind_ret, bind_ret, hc]
        rfl
      · have hb : x.length ≤ 8 := by simp only [Bool.and_eq_true, decide_eq_true_eq] at hr; exact hr.2
        have cm : dComp 0 (fun ρ => (dV 0) ρ >>= sgnM) dTrue (callF 1 f_is_letter (aC (dV 0) aN)) [fz (.str x)] = M.ret (.lst ((x.cps.toList.map fun c => inL ⟨#[c]⟩).map D.bl)) := by
          refine dComp_val (ds := signs x) rfl ?_ ?_
          · have := compL_map (f := compF 0 dTrue (callF 1 f_is_letter (aC (dV 0) aN)) [fz (.str x)]) (g := fun d => D.bl (letD d)) (signs x) fun d hd => by
              rw [compF0]
              obtain ⟨c, _, rfl⟩ := List.mem_map.mp hd
              show (f_is_letter [.str ⟨#[c]⟩] >>= fun y => M.ret (some y)) = _
              rw [is_letter_val (d := .str ⟨#[c]⟩) trivial]
              rfl
            rw [this]
            unfold signs
            rw [List.map_map, List.map_map]
            congr 1
          · rw [List.length_map, List.length_map, Array.length_toList, limv]
            exact Nat.le_trans hb (by decide)
        rw [dA_val (aC_val cm rfl), all_map]
        show M.ret (D.bl ((x.cps.toList.map fun c => inL ⟨#[c]⟩).all id)) = M.ret (D.bl ((decide (1 ≤ x.length) && decide (x.length ≤ 8)) && letters x))
        rw [hr]
        unfold letters
        rw [List.all_map]
        rfl
    · have hr : (decide (1 ≤ x.length) && decide (x.length ≤ 8)) = false := by simpa using hr
      rw [hr] at hc
      have : rowD (.str x) = false := by
        show ((decide (1 ≤ x.length) && decide (x.length ≤ 8)) && letters x) = false
        rw [hr]; rfl
      rw [this]
      refine sSeq_rt (sIf_T ?_ (sRet_val rfl))
      unfold dOr dNot
      rw [hi, bind_ret, bind_ret, hc]
      rfl
  | non => exact no rfl
  | bl b => exact no rfl
  | int b => exact no rfl
  | tup b => exact no rfl
  | lst b => exact no rfl
  | raw _ => exact h.elim
  | exc _ => exact h.elim
  | scr _ => exact h.elim
  | dct _ _ => exact h.elim
  | dci _ _ => exact h.elim
def lenD : D → Nat
  | .str x => x.length
  | _ => 0
def boardD : D → Bool
  | .tup ds => (decide (1 ≤ ds.length) && decide (ds.length ≤ 8)) && (ds.all rowD && ds.all fun d => lenD d == lenD (ds.headD .non))
  | _ => false
def Plain2 : D → Prop
  | .tup ds => ∀ d ∈ ds, Plain d
  | d => Plain d
theorem Plain2.plain {d : D} (h : Plain2 d) : Plain d := by
  cases d <;> first | exact h | exact trivial
theorem len_tup {ds : List D} : lenM [.tup ds] = M.ret (.int (ds.length : Int)) := rfl
theorem ix0 {ds : List D} {d : D} {r : List D} (h : ds = d :: r) : gIxT (.tup ds) (.int 0) = M.ret d := by
  subst h
  show (match L2.atI (d :: r) ((0 : Nat) : Int) with | some d => M.ret d | none => M.stuck) = _
  rw [atI_nat' (x := d) rfl]
theorem row_str {d : D} (h : rowD d = true) : ∃ x, d = .str x := by
  cases d <;> first | exact ⟨_, rfl⟩ | cases h
theorem first_val {d : D} (h : Plain d) : dOr (dNot (dTru (dA isiM (aC (dV 0) (aC (dC (.raw (.ty "tuple"))) aN))))) (dNot (tB' (chI (fun i j => decide (i ≤ j)) (fun i j => decide (i ≤ j)) (dC (.int 1)) (dA lenM (aC (dV 0) aN)) (dC (.int 8))))) [fz d] =
    M.ret (match d with | .tup ds => !(decide (1 ≤ ds.length) && decide (ds.length ≤ 8)) | _ => true) := by
  have hv : dV 0 [fz d] = M.ret d := rfl
  have no : isTup d = false → dOr (dNot (dTru (dA isiM (aC (dV 0) (aC (dC (.raw (.ty "tuple"))) aN))))) (dNot (tB' (chI (fun i j => decide (i ≤ j)) (fun i j => decide (i ≤ j)) (dC (.int 1)) (dA lenM (aC (dV 0) aN)) (dC (.int 8))))) [fz d] = M.ret true := fun hs => by
    simp only [dOr, dNot, dTru, dA, aC, aN, dC, hv, bind_ret, isi_tup h, hs, truM, Bool.not_false, if_true]
  cases d with
  | tup ds =>
    have hi : dTru (dA isiM (aC (dV 0) (aC (dC (.raw (.ty "tuple"))) aN))) [fz (.tup ds)] = M.ret true := by
      simp only [dTru, dA, aC, aN, dC, hv, bind_ret, isi_tup h, isTup, truM]
    have hl : dA lenM (aC (dV 0) aN) [fz (.tup ds)] = M.ret (.int (ds.length : Int)) := rfl
    unfold dOr dNot
    rw [hi, bind_ret, bind_ret, ch_val hl]
    rfl
  | non => exact no rfl
  | bl b => exact no rfl
  | int b => exact no rfl
  | str b => exact no rfl
  | lst b => exact no rfl
  | raw _ => exact h.elim
  | exc _ => exact h.elim
  | scr _ => exact h.elim
  | dct _ _ => exact h.elim
  | dci _ _ => exact h.elim
theorem all_rows {ds : List D} (h : ∀ d ∈ ds, Plain d) (hl : ds.length ≤ 8) : dA allM (aC (dComp 0 (dItT (dV 0)) dTrue (callF 1 f_is_row (aC (dV 0) aN))) aN) [fz (.tup ds)] = M.ret (.bl (ds.all rowD)) := by
  have cm : dComp 0 (dItT (dV 0)) dTrue (callF 1 f_is_row (aC (dV 0) aN)) [fz (.tup ds)] = M.ret (.lst ((ds.map rowD).map D.bl)) := by
    refine dComp_val (ds := ds) rfl ?_ (by rw [List.length_map, List.length_map, limv]; omega)
    rw [List.map_map]
    refine compL_map (g := D.bl ∘ rowD) ds fun d hd => ?_
    rw [compF0]
    show (f_is_row [d] >>= fun y => M.ret (some y)) = _
    rw [is_row_val (h d hd)]
    rfl
  rw [dA_val (aC_val cm rfl), all_map, List.all_map]
  rfl
theorem all_lens {ds : List D} (hs : ∀ d ∈ ds, ∃ x, d = .str x) (h0 : 1 ≤ ds.length) (hl : ds.length ≤ 8) :
    dA allM (aC (dComp 0 (dItT (dV 0)) dTrue (d2 gEq (dA lenM (aC (dV 0) aN)) (dA lenM (aC (d2 gIxT (dV 1) (dC (.int 0))) aN)))) aN) [fz (.tup ds)] = M.ret (.bl (ds.all fun d => lenD d == lenD (ds.headD .non))) := by
  obtain ⟨d0, r, e0⟩ : ∃ d0 r, ds = d0 :: r := by
    cases ds with
    | nil => simp at h0
    | cons a r => exact ⟨a, r, rfl⟩
  have hh : ds.headD .non = d0 := by rw [e0]; rfl
  obtain ⟨x0, hx0⟩ := hs d0 (by rw [e0]; exact List.mem_cons_self ..)
  have cm : dComp 0 (dItT (dV 0)) dTrue (d2 gEq (dA lenM (aC (dV 0) aN)) (dA lenM (aC (d2 gIxT (dV 1) (dC (.int 0))) aN))) [fz (.tup ds)] = M.ret (.lst ((ds.map fun d => lenD d == lenD (ds.headD .non)).map D.bl)) := by
    refine dComp_val (ds := ds) rfl ?_ (by rw [List.length_map, List.length_map, limv]; omega)
    rw [List.map_map]
    refine compL_map (g := D.bl ∘ fun d => lenD d == lenD (ds.headD .non)) ds fun d hd => ?_
    rw [compF0]
    obtain ⟨x, rfl⟩ := hs d hd
    have k : ((x.length : Int) == (x0.length : Int)) = (x.length == x0.length) := natEq _ _
    have i0 : gIxT (.tup ds) (.int 0) = M.ret (.str x0) := by rw [ix0 e0, hx0]
    have hh' : ds.headD .non = .str x0 := by rw [hh, hx0]
    simp only [d2, dA, aC, aN, dC, dV, bind_ret, List.getElem?_cons_zero, List.getElem?_cons_succ, len_str, i0, eq_int, k, Function.comp, lenD, hh']
  rw [dA_val (aC_val cm rfl), all_map, List.all_map]
  rfl
theorem is_board_val {d : D} (h : Plain2 d) : f_is_board [d] = M.ret (.bl (boardD d)) := by
  refine runD_rt ?_
  have hρ : ([d].map (fun d => some (Sl.fz d)) ++ List.replicate (1 - [d].length) none) = [fz d] := rfl
  rw [hρ]
  have hf := first_val h.plain
  have no : (∀ ds, d ≠ .tup ds) → τ_is_board [fz d] = M.ret (.rt (.bl (boardD d))) := fun hn => by
    cases d <;> first | exact absurd rfl (hn _) | exact sSeq_rt (sIf_T hf (sRet_val rfl))
  cases d with
  | tup ds =>
    have hf : _ = M.ret (!(decide (1 ≤ ds.length) && decide (ds.length ≤ 8))) := hf
    by_cases hr : (decide (1 ≤ ds.length) && decide (ds.length ≤ 8)) = true
    · rw [hr] at hf
      have hb := hr
      simp only [Bool.and_eq_true, decide_eq_true_eq] at hb
      have e : boardD (.tup ds) = (ds.all rowD && ds.all fun d => lenD d == lenD (ds.headD .non)) := by
        show ((decide (1 ≤ ds.length) && decide (ds.length ≤ 8)) && _) = _
        rw [hr, Bool.true_and]
      rw [e]
      have a1 := all_rows h hb.2
      refine sSeq_nx (sIf_F hf rfl) ?_
      cases hc : ds.all rowD with
      | false =>
        rw [hc] at a1
        refine sSeq_rt (sIf_T ?_ (sRet_val rfl))
        unfold dNot dTru
        rw [a1]
        rfl
      | true =>
        rw [hc] at a1
        refine sSeq_nx (sIf_F ?_ rfl) (sRet_val ?_)
        · unfold dNot dTru
          rw [a1]
          rfl
        · rw [Bool.true_and]
          exact all_lens (fun d hd => row_str (List.all_eq_true.mp hc d hd)) hb.1 hb.2
    · have hr : (decide (1 ≤ ds.length) && decide (ds.length ≤ 8)) = false := by simpa using hr
      rw [hr] at hf
      have e : boardD (.tup ds) = false := by
        show ((decide (1 ≤ ds.length) && decide (ds.length ≤ 8)) && _) = _
        rw [hr]; rfl
      rw [e]
      exact sSeq_rt (sIf_T hf (sRet_val rfl))
  | non => exact no fun _ z => by cases z
  | bl b => exact no fun _ z => by cases z
  | int b => exact no fun _ z => by cases z
  | str b => exact no fun _ z => by cases z
  | lst b => exact no fun _ z => by cases z
  | raw _ => exact h.elim
  | exc _ => exact h.elim
  | scr _ => exact h.elim
  | dct _ _ => exact h.elim
  | dci _ _ => exact h.elim
end K1


set_option Elab.async false
set_option linter.all false
set_option maxRecDepth 100000
namespace K1
open PySem L2 L3
structure Brd (ob : List Str) (V : Nat) : Prop where
  r1 : 1 ≤ ob.length
  r8 : ob.length ≤ 8
  w1 : 1 ≤ V
  w8 : V ≤ 8
  rows : ∀ r ∈ ob, Row V r
theorem Good.brd {bd : List Str} {W : Nat} (hg : Good bd W) : Brd bd W := ⟨hg.r1, by have := hg.r5; omega, hg.w1, by have := hg.w5; omega, hg.rows⟩
theorem Brd.board {ob : List Str} {V : Nat} (h : Brd ob V) : boardD (brd ob) = true := by
  have hrow : ∀ r ∈ ob, rowD (.str r) = true := fun r hr => by
    have q := h.rows r hr
    show ((decide (1 ≤ r.length) && decide (r.length ≤ 8)) && letters r) = true
    rw [q.len]
    have a : decide (1 ≤ V) = true := decide_eq_true h.w1
    have b : decide (V ≤ 8) = true := decide_eq_true h.w8
    rw [a, b]
    show letters r = true
    exact List.all_eq_true.mpr fun c hc => q.let' c hc
  have h0 : lenD ((ob.map D.str).headD .non) = V := by
    have := h.r1
    have hr := h.rows
    cases ob with
    | nil => simp at this
    | cons x l => exact (hr x (List.mem_cons_self ..)).len
  show ((decide (1 ≤ (ob.map D.str).length) && decide ((ob.map D.str).length ≤ 8)) && ((ob.map D.str).all rowD && (ob.map D.str).all fun d => lenD d == lenD ((ob.map D.str).headD .non))) = true
  rw [h0, List.length_map, decide_eq_true h.r1, decide_eq_true h.r8]
  have a : (ob.map D.str).all rowD = true := List.all_eq_true.mpr fun d hd => by
    obtain ⟨r, hr, rfl⟩ := List.mem_map.mp hd
    exact hrow r hr
  have b : ((ob.map D.str).all fun d => lenD d == V) = true := List.all_eq_true.mpr fun d hd => by
    obtain ⟨r, hr, rfl⟩ := List.mem_map.mp hd
    show (r.length == V) = true
    rw [(h.rows r hr).len]
    simp
  rw [a, b]
  rfl
theorem brd_plain {bd : List Str} : Plain2 (brd bd) := fun d hd => by
  obtain ⟨r, _, rfl⟩ := List.mem_map.mp hd
  trivial
theorem dTru_b {δ : DE} {ρ : Rho} {b : Bool} (h : δ ρ = M.ret (.bl b)) : dTru δ ρ = M.ret b := by
  unfold dTru
  rw [h]
  rfl
theorem tB_b {δ : DE} {ρ : Rho} {b : Bool} (h : δ ρ = M.ret (.bl b)) : tB' δ ρ = M.ret b := by
  unfold tB'
  rw [h]
  rfl
theorem dNot_b {τ : DT} {ρ : Rho} {b : Bool} (h : τ ρ = M.ret b) : dNot τ ρ = M.ret (!b) := by
  unfold dNot
  rw [h]
  rfl
theorem dOr_b {a c : DT} {ρ : Rho} {p q : Bool} (h1 : a ρ = M.ret p) (h2 : c ρ = M.ret q) : dOr a c ρ = M.ret (p || q) := by
  unfold dOr
  rw [h1, bind_ret]
  cases p
  · exact h2
  · rfl
theorem dAndV_b {a c : DE} {ρ : Rho} {p q : Bool} (h1 : a ρ = M.ret (.bl p)) (h2 : c ρ = M.ret (.bl q)) : dAndV a c ρ = M.ret (.bl (p && q)) := by
  unfold dAndV
  rw [h1, bind_ret]
  cases p
  · rfl
  · exact h2
theorem dOrV_b {a c : DE} {ρ : Rho} {p q : Bool} (h1 : a ρ = M.ret (.bl p)) (h2 : c ρ = M.ret (.bl q)) : dOrV a c ρ = M.ret (.bl (p || q)) := by
  unfold dOrV
  rw [h1, bind_ret]
  cases p
  · exact h2
  · rfl
theorem dIf_b {c : DT} {a b : DE} {ρ : Rho} {p : Bool} (h : c ρ = M.ret p) : dIf c a b ρ = if p then a ρ else b ρ := by
  unfold dIf
  rw [h]
  rfl
theorem Brd.nb {ob : List Str} {V : Nat} (h : Brd ob V) : f_need_board [brd ob] = M.ret .non := by
  refine runD_nx (ρ := [fz (brd ob)]) (sIf_F (dNot_b (dTru_b (b := true) ?_)) rfl)
  refine (callF_val (ds := [brd ob]) rfl rfl).trans ?_
  rw [is_board_val brd_plain, h.board]
theorem Brd.len0 {ob : List Str} {V : Nat} (h : Brd ob V) {i : Nat} {ρ : Rho} (hρ : ρ[i]? = some (fz (brd ob))) : dA lenM (aC (d2 gIxT (dV i) (dC (.int 0))) aN) ρ = M.ret (.int (V : Int)) := by
  have h1 := h.r1
  have hr := h.rows
  obtain ⟨x, l, e⟩ : ∃ x l, ob = x :: l := by
    cases ob with
    | nil => simp at h1
    | cons x l => exact ⟨x, l, rfl⟩
  have hx : x.length = V := (hr x (by rw [e]; exact List.mem_cons_self ..)).len
  have i0 : gIxT (brd ob) (.int 0) = M.ret (.str x) := ix0 (show ob.map D.str = D.str x :: l.map D.str by rw [e]; rfl)
  have k := d2_val (g := gIxT) (dV_val hρ) (show dC (.int 0) ρ = M.ret (.int 0) from rfl)
  rw [i0] at k
  rw [dA_val (aC_val (xs := []) k rfl)]
  show M.ret (D.int (x.length : Int)) = _
  rw [hx]
theorem lenR {bd : List Str} {i : Nat} {ρ : Rho} (hρ : ρ[i]? = some (fz (brd bd))) : dA lenM (aC (dV i) aN) ρ = M.ret (.int (bd.length : Int)) := by
  have : lenM [brd bd] = M.ret (.int (bd.length : Int)) := by
    show M.ret (D.int ((bd.map D.str).length : Int)) = _
    rw [List.length_map]
  simp only [dA, aC, aN, dV_val hρ, bind_ret, this]
def wholeD : D → Bool
  | .int _ => true
  | _ => false
theorem whole_val {d : D} (h : Plain d) : f_is_whole [d] = M.ret (.bl (wholeD d)) := by
  cases d <;> first | rfl | exact h.elim
def cell2 (R W : Nat) : D → D → Bool
  | .int a, .int b => (decide (0 ≤ a) && decide (a < (R : Int))) && (decide (0 ≤ b) && decide (b < (W : Int)))
  | _, _ => false
def cellD (R W : Nat) : D → Bool
  | .tup [u, v] => cell2 R W u v
  | _ => false
theorem chlt {δ ε : DE} {ρ : Rho} {i n : Int} (h : δ ρ = M.ret (.int i)) (h2 : ε ρ = M.ret (.int n)) :
    chI (fun i j => decide (i ≤ j)) (fun i j => decide (i < j)) (dC (.int 0)) δ ε ρ = M.ret (.bl (decide (0 ≤ i) && decide (i < n))) := by
  simp only [chI, dC, h, h2, bind_ret, gI]
  cases decide (0 ≤ i) <;> rfl
theorem is_cell_val {bd : List Str} {W : Nat} (hg : Brd bd W) {d : D} (h : Plain2 d) : f_is_cell [brd bd, d] = M.ret (.bl (cellD bd.length W d)) := by
  refine runD_rt ?_
  have hρ : ([brd bd, d].map (fun d => some (Sl.fz d)) ++ List.replicate (2 - [brd bd, d].length) none) = [fz (brd bd), fz d] := rfl
  rw [hρ]
  have hv : dV 1 [fz (brd bd), fz d] = M.ret d := rfl
  have no : isTup d = false → τ_is_cell [fz (brd bd), fz d] = M.ret (.rt (.bl false)) := fun hs => by
    refine sSeq_rt (sIf_T ?_ (sRet_val rfl))
    simp only [dOr, dNot, dTru, dA, aC, aN, dC, hv, bind_ret, isi_tup h.plain, hs, truM, Bool.not_false, if_true]
  cases d with
  | tup ds =>
    have hi : dNot (dTru (dA isiM (aC (dV 1) (aC (dC (.raw (.ty "tuple"))) aN)))) [fz (brd bd), fz (.tup ds)] = M.ret false := by
      simp only [dNot, dTru, dA, aC, aN, dC, hv, bind_ret, isi_tup h.plain, isTup, truM, Bool.not_true]
    have k : ((ds.length : Int) == 2) = (ds.length == 2) := natEq ds.length 2
    have hl : dOr (dNot (dTru (dA isiM (aC (dV 1) (aC (dC (.raw (.ty "tuple"))) aN))))) (tB' (d2 gNe (dA lenM (aC (dV 1) aN)) (dC (.int 2)))) [fz (brd bd), fz (.tup ds)] = M.ret (!(ds.length == 2)) := by
      unfold dOr
      rw [hi]
      simp only [tB', d2, dA, aC, aN, dC, hv, bind_ret, len_tup, ne_int, k, blM, Bool.false_eq_true, if_false]
    match ds, h, hl with
    | [], h, hl => exact sSeq_rt (sIf_T hl (sRet_val rfl))
    | [_], h, hl => exact sSeq_rt (sIf_T hl (sRet_val rfl))
    | _ :: _ :: _ :: _, h, hl =>
      refine sSeq_rt (sIf_T (hl.trans ?_) (sRet_val rfl))
      simp
    | [u, v], h, hl =>
      refine sSeq_nx (sIf_F hl rfl) ?_
      have pu : Plain u := h u (by simp)
      have pv : Plain v := h v (by simp)
      have w1 : callF 1 f_is_whole (aC (d2 gIxT (dV 1) (dC (.int 0))) aN) [fz (brd bd), fz (.tup [u, v])] = M.ret (.bl (wholeD u)) := whole_val pu
      have w2 : callF 1 f_is_whole (aC (d2 gIxT (dV 1) (dC (.int 1))) aN) [fz (brd bd), fz (.tup [u, v])] = M.ret (.bl (wholeD v)) := whole_val pv
      have hw : dOr (dNot (dTru (callF 1 f_is_whole (aC (d2 gIxT (dV 1) (dC (.int 0))) aN)))) (dNot (dTru (callF 1 f_is_whole (aC (d2 gIxT (dV 1) (dC (.int 1))) aN)))) [fz (brd bd), fz (.tup [u, v])] = M.ret (!(wholeD u && wholeD v)) := by
        unfold dOr dNot dTru
        rw [w1, w2]
        simp only [bind_ret, truM]
        cases wholeD u <;> cases wholeD v <;> rfl
      have bad : (wholeD u && wholeD v) = false → sSeq (sIf (dOr (dNot (dTru (callF 1 f_is_whole (aC (d2 gIxT (dV 1) (dC (.int 0))) aN)))) (dNot (dTru (callF 1 f_is_whole (aC (d2 gIxT (dV 1) (dC (.int 1))) aN))))) (sRet (dC (.bl false))) sNil) (sRet (dAndV (chI (fun i j => decide (i ≤ j)) (fun i j => decide (i < j)) (dC (.int 0)) (d2 gIxT (dV 1) (dC (.int 0))) (dA lenM (aC (dV 0) aN))) (chI (fun i j => decide (i ≤ j)) (fun i j => decide (i < j)) (dC (.int 0)) (d2 gIxT (dV 1) (dC (.int 1))) (dA lenM (aC (d2 gIxT (dV 0) (dC (.int 0))) aN))))) [fz (brd bd), fz (.tup [u, v])] = M.ret (.rt (.bl false)) := fun hz => by
        rw [hz] at hw
        exact sSeq_rt (sIf_T hw (sRet_val rfl))
      match u, v, hw, bad with
      | .int a, .int b, hw, bad =>
        refine sSeq_nx (sIf_F hw rfl) (sRet_val ?_)
        obtain ⟨x0, r, e0⟩ : ∃ x0 r, bd = x0 :: r := by
          have := hg.r1
          cases bd with
          | nil => simp at this
          | cons x r => exact ⟨x, r, rfl⟩
        have hx : x0.length = W := (hg.rows x0 (by rw [e0]; simp)).len
        have l0 : dA lenM (aC (dV 0) aN) [fz (brd bd), fz (.tup [.int a, .int b])] = M.ret (.int (bd.length : Int)) := by
          show M.ret (D.int ((bd.map D.str).length : Int)) = _
          rw [List.length_map]
        have l1 : dA lenM (aC (d2 gIxT (dV 0) (dC (.int 0))) aN) [fz (brd bd), fz (.tup [.int a, .int b])] = M.ret (.int (W : Int)) := by
          have i0 : gIxT (brd bd) (.int 0) = M.ret (.str x0) := ix0 (r := r.map D.str) (by rw [e0]; rfl)
          simp only [dA, aC, aN, d2, dC, dV, List.getElem?_cons_zero, bind_ret, i0, len_str, hx]
        have c1 := chlt (δ := d2 gIxT (dV 1) (dC (.int 0))) (i := a) rfl l0
        have c2 := chlt (δ := d2 gIxT (dV 1) (dC (.int 1))) (i := b) rfl l1
        unfold dAndV
        rw [c1, bind_ret]
        show (if (decide (0 ≤ a) && decide (a < (bd.length : Int))) = true then _ else _) = M.ret (D.bl ((decide (0 ≤ a) && decide (a < (bd.length : Int))) && (decide (0 ≤ b) && decide (b < (W : Int)))))
        cases (decide (0 ≤ a) && decide (a < (bd.length : Int)))
        · rfl
        · rw [if_pos rfl, c2, Bool.true_and]
      | .non, _, _, bad => exact bad rfl
      | .bl _, _, _, bad => exact bad rfl
      | .str _, _, _, bad => exact bad rfl
      | .tup _, _, _, bad => exact bad rfl
      | .lst _, _, _, bad => exact bad rfl
      | .raw _, _, _, _ => exact pu.elim
      | .exc _, _, _, _ => exact pu.elim
      | .scr _, _, _, _ => exact pu.elim
      | .int a, .non, _, bad => exact bad rfl
      | .int a, .bl _, _, bad => exact bad rfl
      | .int a, .str _, _, bad => exact bad rfl
      | .int a, .tup _, _, bad => exact bad rfl
      | .int a, .lst _, _, bad => exact bad rfl
      | .int a, .raw _, _, _ => exact pv.elim
      | .int a, .exc _, _, _ => exact pv.elim
      | .int a, .scr _, _, _ => exact pv.elim
  | non => exact no rfl
  | bl b => exact no rfl
  | int b => exact no rfl
  | str b => exact no rfl
  | lst b => exact no rfl
  | raw _ => exact h.elim
  | exc _ => exact h.elim
  | scr _ => exact h.elim
  | dct _ _ => exact h.elim
  | dci _ _ => exact h.elim
abbrev Cell := Nat × Nat
def cD (c : Cell) : D := .tup [.int (c.1 : Int), .int (c.2 : Int)]
def On (R W : Nat) (c : Cell) : Prop := c.1 < R ∧ c.2 < W
instance {R W : Nat} {c : Cell} : Decidable (On R W c) := by unfold On; infer_instance
theorem cD_plain {c : Cell} : Plain2 (cD c) := fun d hd => by
  have : d = .int (c.1 : Int) ∨ d = .int (c.2 : Int) := by simpa [cD] using hd
  rcases this with rfl | rfl <;> trivial
theorem cell_on {R W : Nat} {c : Cell} (h : On R W c) : cellD R W (cD c) = true := by
  show ((decide ((0 : Int) ≤ (c.1 : Int)) && decide ((c.1 : Int) < (R : Int))) && (decide ((0 : Int) ≤ (c.2 : Int)) && decide ((c.2 : Int) < (W : Int)))) = true
  obtain ⟨h1, h2⟩ := h
  simp
  omega
theorem Brd.nc {bd : List Str} {W : Nat} (hg : Brd bd W) {c : Cell} (h : On bd.length W c) : f_need_cell [brd bd, cD c] = M.ret .non := by
  refine runD_nx (ρ := [fz (brd bd), fz (cD c)]) (sIf_F (dNot_b (dTru_b (b := true) ?_)) rfl)
  refine (callF_val (ds := [brd bd, cD c]) rfl rfl).trans ?_
  rw [is_cell_val hg cD_plain, cell_on h]
def Ways (w : Nat) : Prop := w = 4 ∨ w = 8
theorem Ways.nw {w : Nat} (h : Ways w) : f_need_ways [.int (w : Int)] = M.ret .non := by
  rcases h with rfl | rfl <;> rfl
def ch (x : Str) (j : Nat) : Nat := x.cps.toList.getD j 0
def at2 (bd : List Str) (i j : Nat) : Nat := ch (bd.getD i ⟨#[]⟩) j
abbrev lt (bd : List Str) (c : Cell) : Nat := at2 bd c.1 c.2
def sg (n : Nat) : D := .str ⟨#[n]⟩
theorem sgn_val {x : Str} {c : Nat} (h : c < x.length) : gIxS (.str x) (.int (c : Int)) = M.ret (sg (ch x c)) := by
  have h' : c < x.cps.toList.length := by rw [Array.length_toList]; exact h
  show (match L2.atI x.cps.toList (c : Int) with | some c => M.ret (D.str ⟨#[c]⟩) | none => M.stuck) = _
  rw [atI_nat' (List.getElem?_eq_getElem h')]
  unfold sg ch
  rw [List.getD_eq_getElem?_getD, List.getElem?_eq_getElem h']
  rfl
theorem getD_mem {bd : List Str} {i : Nat} (h : i < bd.length) : bd.getD i ⟨#[]⟩ ∈ bd := by
  rw [List.getD_eq_getElem?_getD, List.getElem?_eq_getElem h]
  exact List.getElem_mem h
theorem ixT_at {bd : List Str} {i : Nat} (h : i < bd.length) : gIxT (brd bd) (.int (i : Int)) = M.ret (.str (bd.getD i ⟨#[]⟩)) := by
  show (match L2.atI (bd.map D.str) (i : Int) with | some d => M.ret d | none => M.stuck) = _
  rw [atI_nat' (x := .str (bd.getD i ⟨#[]⟩)) ?_]
  rw [List.getElem?_map, List.getElem?_eq_getElem h, List.getD_eq_getElem?_getD, List.getElem?_eq_getElem h]
  rfl
theorem letter_of_val {bd : List Str} {W : Nat} (hg : Brd bd W) {c : Cell} (h : On bd.length W c) : f_letter_of [brd bd, cD c] = M.ret (sg (lt bd c)) := by
  refine runD_rt (sRet_val ?_)
  refine (d2_val (x := .str (bd.getD c.1 ⟨#[]⟩)) (y := .int (c.2 : Int)) ((d2_val (x := brd bd) (y := .int (c.1 : Int)) rfl rfl).trans (ixT_at h.1)) rfl).trans ?_
  exact sgn_val (by rw [(hg.rows _ (getD_mem h.1)).len]; exact h.2)
theorem eq_sg (a b : Nat) : gEq (sg a) (sg b) = M.ret (.bl (decide (a = b))) := by
  show M.ret (D.bl (decide ((⟨#[a]⟩ : Str) = ⟨#[b]⟩))) = _
  congr 2
  by_cases h : a = b
  · subst h; simp
  · have : ¬ ((⟨#[a]⟩ : Str) = ⟨#[b]⟩) := fun z => by
      injection z with z
      exact h (by simpa using z)
    rw [decide_eq_false h, decide_eq_false this]
def dif (a b : Nat) : Nat := max a b - min a b
def nxt (w : Nat) (a b : Cell) : Bool := if w = 4 then decide (dif a.1 b.1 + dif a.2 b.2 = 1) else decide (max (dif a.1 b.1) (dif a.2 b.2) = 1)
theorem abs_dif (a b : Nat) : absM [.int ((a : Int) - (b : Int))] = M.ret (.int (dif a b : Int)) := by
  show M.ret (D.int _) = _
  congr 2
  unfold dif
  omega
theorem are_next_val {w : Nat} (hw : Ways w) (a b : Cell) : f_are_next [cD a, cD b, .int (w : Int)] = M.ret (.bl (nxt w a b)) := by
  refine runD_rt ?_
  refine sSeq_nx (ρ' := [fz (cD a), fz (cD b), fz (.int (w : Int)), fz (.int (dif a.1 b.1 : Int)), none]) ((sSet_val (d := .int (dif a.1 b.1 : Int)) (abs_dif a.1 b.1)).trans rfl) ?_
  refine sSeq_nx (ρ' := [fz (cD a), fz (cD b), fz (.int (w : Int)), fz (.int (dif a.1 b.1 : Int)), fz (.int (dif a.2 b.2 : Int))]) ((sSet_val (d := .int (dif a.2 b.2 : Int)) (abs_dif a.2 b.2)).trans rfl) ?_
  rcases hw with rfl | rfl
  · refine sSeq_rt (sIf_T (tB_b rfl) (sRet_val ?_))
    show M.ret (D.bl (((dif a.1 b.1 : Int) + (dif a.2 b.2 : Int)) == 1)) = _
    unfold nxt
    rw [if_pos rfl]
    congr 2
    have : ((dif a.1 b.1 : Int) + (dif a.2 b.2 : Int)) = ((dif a.1 b.1 + dif a.2 b.2 : Nat) : Int) := by omega
    rw [this]
    have e := natEq (dif a.1 b.1 + dif a.2 b.2) 1
    exact e.trans rfl
  · refine sSeq_nx (sIf_F (tB_b rfl) rfl) (sRet_val ?_)
    show M.ret (D.bl ((if (dif a.1 b.1 : Int) < (dif a.2 b.2 : Int) then (dif a.2 b.2 : Int) else (dif a.1 b.1 : Int)) == 1)) = _
    have hn : nxt 8 a b = decide (max (dif a.1 b.1) (dif a.2 b.2) = 1) := rfl
    rw [hn]
    congr 2
    have : (if (dif a.1 b.1 : Int) < (dif a.2 b.2 : Int) then (dif a.2 b.2 : Int) else (dif a.1 b.1 : Int)) = ((max (dif a.1 b.1) (dif a.2 b.2) : Nat) : Int) := by split <;> omega
    rw [this]
    have e := natEq (max (dif a.1 b.1) (dif a.2 b.2)) 1
    exact e.trans rfl
theorem nxt_symm (w : Nat) (a b : Cell) : nxt w a b = nxt w b a := by
  have e : ∀ x y : Nat, dif x y = dif y x := fun x y => by unfold dif; omega
  unfold nxt
  rw [e a.1, e a.2]
theorem nxt48 {a b : Cell} (h : nxt 4 a b = true) : nxt 8 a b = true := by
  unfold nxt at h ⊢
  rw [if_pos rfl] at h
  rw [if_neg (by decide)]
  have h := of_decide_eq_true h
  exact decide_eq_true (by omega)
end K1


set_option Elab.async false
set_option linter.all false
set_option maxRecDepth 100000
namespace K1
open PySem L2 L3
theorem forL_cons {put : D → Rho → Option Rho} {body : DS} {d : D} {ds : List D} {ρ ρ1 ρ2 : Rho} (h1 : put d ρ = some ρ1) (h2 : body ρ1 = M.ret (.nx ρ2)) : forL put body (d :: ds) ρ = forL put body ds ρ2 := by
  show (match put d ρ with | none => M.stuck | some ρ1 => body ρ1 >>= fun o => match o with | .nx ρ2 => forL put body ds ρ2 | .rt v => M.ret (.rt v)) = _
  rw [h1]
  show (body ρ1 >>= fun o => match o with | .nx ρ2 => forL put body ds ρ2 | .rt v => M.ret (.rt v)) = _
  rw [h2]
  rfl
theorem forL_rt {put : D → Rho → Option Rho} {body : DS} {d v : D} {ds : List D} {ρ ρ1 : Rho} (h1 : put d ρ = some ρ1) (h2 : body ρ1 = M.ret (.rt v)) : forL put body (d :: ds) ρ = M.ret (.rt v) := by
  show (match put d ρ with | none => M.stuck | some ρ1 => body ρ1 >>= fun o => match o with | .nx ρ2 => forL put body ds ρ2 | .rt v => M.ret (.rt v)) = _
  rw [h1]
  show (body ρ1 >>= fun o => match o with | .nx ρ2 => forL put body ds ρ2 | .rt v => M.ret (.rt v)) = _
  rw [h2]
  rfl
section
variable {α σ : Type} {put : D → Rho → Option Rho} {body : DS}
theorem forL_fold (enc : α → D) (mk : σ → Rho) (step : σ → α → σ) (I : σ → Prop) : ∀ (xs : List α) (s : σ), I s → (∀ s, I s → ∀ x ∈ xs, I (step s x) ∧ ∃ ρ1, put (enc x) (mk s) = some ρ1 ∧ body ρ1 = M.ret (.nx (mk (step s x)))) →
    I (xs.foldl step s) ∧ forL put body (xs.map enc) (mk s) = M.ret (.nx (mk (xs.foldl step s)))
  | [], s, h, _ => ⟨h, rfl⟩
  | x :: xs, s, h, st => by
    obtain ⟨h2, ρ1, e1, e2⟩ := st s h x (List.mem_cons_self ..)
    obtain ⟨h3, e3⟩ := forL_fold enc mk step I xs (step s x) h2 fun s hs y hy => st s hs y (List.mem_cons_of_mem _ hy)
    exact ⟨h3, (forL_cons e1 e2).trans e3⟩
theorem forL_same (enc : α → D) (ρ : Rho) : ∀ (xs : List α), (∀ x ∈ xs, ∃ ρ1, put (enc x) ρ = some ρ1 ∧ body ρ1 = M.ret (.nx ρ)) → forL put body (xs.map enc) ρ = M.ret (.nx ρ)
  | [], _ => rfl
  | x :: xs, st => by
    obtain ⟨ρ1, e1, e2⟩ := st x (List.mem_cons_self ..)
    exact (forL_cons e1 e2).trans (forL_same enc ρ xs fun y hy => st y (List.mem_cons_of_mem _ hy))
theorem forL_app (enc : α → D) (mk : List D → Rho) (g : α → List D) {B : Nat} : ∀ (xs : List α) (acc : List D), (acc ++ xs.flatMap g).length ≤ B → (∀ x ∈ xs, ∀ acc, (acc ++ g x).length ≤ B → ∃ ρ1, put (enc x) (mk acc) = some ρ1 ∧ body ρ1 = M.ret (.nx (mk (acc ++ g x)))) →
    forL put body (xs.map enc) (mk acc) = M.ret (.nx (mk (acc ++ xs.flatMap g)))
  | [], acc, _, _ => by simp; rfl
  | x :: xs, acc, hB, st => by
    have hB' : ((acc ++ g x) ++ xs.flatMap g).length ≤ B := by simpa [List.flatMap_cons, List.append_assoc] using hB
    obtain ⟨ρ1, e1, e2⟩ := st x (List.mem_cons_self ..) acc (Nat.le_trans (by simp only [List.length_append]; omega) hB')
    have e3 := forL_app enc mk g xs (acc ++ g x) hB' fun y hy => st y (List.mem_cons_of_mem _ hy)
    rw [List.map_cons, forL_cons e1 e2, e3, List.flatMap_cons, List.append_assoc]
end
theorem sForL {put : D → Rho → Option Rho} {δi : DA} {b : DS} {ρ : Rho} {ds : List D} {m : M Out} (h : δi ρ = M.ret ds) (h2 : forL put b ds ρ = m) : sFor put δi b ρ = m := by
  unfold sFor
  rw [h]
  exact h2
theorem noex_nx {τ : DS} {ρ : Rho} {o : Out} (h : τ ρ = M.ret o) : (fun ρ => noex (τ ρ)) ρ = M.ret o := by
  show noex (τ ρ) = _
  rw [h]
  rfl
theorem rngL_nat (lo n : Nat) : rngL (lo : Int) n = (List.range' lo n).map fun (k : Nat) => D.int (k : Int) := by
  unfold rngL
  rw [List.range_eq_range']
  have : ∀ (n a : Nat), (List.range' a n).map (fun (i : Nat) => D.int ((lo : Int) + (i : Int))) = (List.range' (lo + a) n).map fun (k : Nat) => D.int (k : Int) := by
    intro n
    induction n with
    | zero => intro a; rfl
    | succ n ih =>
      intro a
      rw [List.range'_succ, List.range'_succ, List.map_cons, List.map_cons, ih (a + 1)]
      rfl
  exact this n 0
theorem rng1 {δ : DE} {ρ : Rho} {n : Nat} (h : δ ρ = M.ret (.int (n : Int))) (hn : n ≤ 4096) : (aC δ aN ρ >>= rngM1) = M.ret ((List.range n).map fun (k : Nat) => D.int (k : Int)) := by
  rw [aC_val h rfl, bind_ret, rngM1_val hn, show rngL 0 n = rngL ((0 : Nat) : Int) n from rfl, rngL_nat, List.range_eq_range']
theorem rng2 {δ ε : DE} {ρ : Rho} {i j : Nat} (h : δ ρ = M.ret (.int (i : Int))) (h2 : ε ρ = M.ret (.int (j : Int))) (hi : i ≤ 4096) (hj : j ≤ 4096) : (aC δ (aC ε aN) ρ >>= rngM2) = M.ret ((List.range' i (j - i)).map fun (k : Nat) => D.int (k : Int)) := by
  rw [aC_val h (aC_val h2 rfl), bind_ret]
  show (if (-4096 ≤ (i : Int) ∧ (i : Int) ≤ 4096) ∧ (-4096 ≤ (j : Int) ∧ (j : Int) ≤ 4096) then M.ret (rngL (i : Int) ((j : Int) - (i : Int)).toNat) else M.stuck) = _
  rw [if_pos ⟨⟨by omega, by omega⟩, by omega, by omega⟩, show ((j : Int) - (i : Int)).toNat = j - i by omega, rngL_nat]
def rowCs (W r : Nat) : List Cell := (List.range W).map fun k => (r, k)
def cellsN (R W : Nat) : List Cell := (List.range R).flatMap (rowCs W)
theorem mem_cellsN {R W : Nat} {c : Cell} : c ∈ cellsN R W ↔ On R W c := by
  unfold cellsN rowCs On
  simp only [List.mem_flatMap, List.mem_range, List.mem_map]
  constructor
  · rintro ⟨r, hr, k, hk, rfl⟩; exact ⟨hr, hk⟩
  · rintro ⟨h1, h2⟩; exact ⟨c.1, h1, c.2, h2, rfl⟩
theorem len_cellsN (R W : Nat) : (cellsN R W).length = R * W := by
  unfold cellsN
  have : ∀ l : List Nat, (l.flatMap (rowCs W)).length = l.length * W := by
    intro l
    induction l with
    | nil => simp
    | cons a l ih => rw [List.flatMap_cons, List.length_append, ih, List.length_cons, Nat.succ_mul]; simp [rowCs]; omega
  rw [this, List.length_range]
theorem cells_of_row_val {bd : List Str} {W : Nat} (hg : Brd bd W) (r : Nat) : f_cells_of_row [brd bd, .int (r : Int)] = M.ret (.lst ((rowCs W r).map cD)) := by
  have := hg.w8
  refine runD_rt (sRet_val (dComp_val (rng1 (n := W) (hg.len0 rfl) (by omega)) ?_ (by simp [rowCs, limv]; omega)))
  rw [show (rowCs W r).map cD = ((List.range W).map fun (k : Nat) => D.int (k : Int)).map (fun e => .tup [.int (r : Int), e]) by simp [rowCs, List.map_map]; intro a _; rfl]
  exact compL_map (g := fun e => .tup [.int (r : Int), e]) _ fun e _ => rfl
theorem all_cells_val {bd : List Str} {W : Nat} (hg : Brd bd W) : f_all_cells [brd bd] = M.ret (.lst ((cellsN bd.length W).map cD)) := by
  have h8 := hg.r8
  have w8 := hg.w8
  have hm : bd.length * W ≤ 64 := Nat.mul_le_mul h8 w8
  have hfl : (List.range bd.length).flatMap (fun r => (rowCs W r).map cD) = (cellsN bd.length W).map cD := by
    unfold cellsN; rw [List.map_flatMap]
  have e := forL_app (put := putN 2) (body := sFgt [2] (sExt 1 (callF 2 f_cells_of_row (aC (dV 0) (aC (dV 2) aN))))) (fun (k : Nat) => D.int (k : Int)) (fun acc => [fz (brd bd), some (.ow (.lst acc)), none]) (fun r => (rowCs W r).map cD) (B := 64) (List.range bd.length) []
    (by rw [List.nil_append, hfl, List.length_map, len_cellsN]; exact hm) fun r hr acc hB => by
      refine ⟨[fz (brd bd), some (.ow (.lst acc)), fz (.int (r : Int))], rfl, ?_⟩
      refine (sFgt_nx (ρ' := [fz (brd bd), some (.ow (.lst (acc ++ (rowCs W r).map cD))), fz (.int (r : Int))]) ?_).trans rfl
      show (f_cells_of_row [brd bd, .int (r : Int)] >>= fun d => lstM d >>= fun es => if acc.length + es.length ≤ lim then M.ret (Out.nx (List.set [fz (brd bd), some (.ow (.lst acc)), fz (.int (r : Int))] 1 (some (.ow (.lst (acc ++ es)))))) else M.stuck) = _
      rw [cells_of_row_val hg, bind_ret]
      show (if acc.length + ((rowCs W r).map cD).length ≤ lim then M.ret (Out.nx [fz (brd bd), some (.ow (.lst (acc ++ (rowCs W r).map cD))), fz (.int (r : Int))]) else M.stuck) = _
      rw [if_pos (by rw [List.length_append] at hB; rw [limv]; omega)]
  rw [List.nil_append, hfl] at e
  refine runD_rt (sSeq_nx (ρ' := [fz (brd bd), some (.ow (.lst [])), none]) rfl (sSeq_nx (ρ' := [fz (brd bd), some (.ow (.lst ((cellsN bd.length W).map cD))), none]) (noex_nx (sForL (rng1 (n := bd.length) (lenR rfl) (by omega)) e)) ?_))
  rfl
def nextC (R W w : Nat) (c : Cell) : List Cell :=
  (List.range' (c.1 - 1) (min (c.1 + 2) R - (c.1 - 1))).flatMap fun r => ((List.range' (c.2 - 1) (min (c.2 + 2) W - (c.2 - 1))).map fun k => (r, k)).filter (nxt w c)
theorem mem_nextC {R W w : Nat} (hw : Ways w) {c x : Cell} : x ∈ nextC R W w c ↔ On R W x ∧ nxt w c x = true := by
  unfold nextC On
  simp only [List.mem_flatMap, List.mem_filter, List.mem_map, List.mem_range'_1]
  constructor
  · rintro ⟨r, ⟨h1, h2⟩, ⟨k, ⟨h3, h4⟩, rfl⟩, h5⟩
    refine ⟨⟨?_, ?_⟩, h5⟩
    · show r < R; omega
    · show k < W; omega
  · rintro ⟨⟨h1, h2⟩, h5⟩
    have h6 : dif c.1 x.1 ≤ 1 ∧ dif c.2 x.2 ≤ 1 := by
      unfold nxt at h5
      rcases hw with rfl | rfl
      · rw [if_pos rfl] at h5; have := of_decide_eq_true h5; omega
      · rw [if_neg (by decide)] at h5; have := of_decide_eq_true h5; omega
    unfold dif at h6
    exact ⟨x.1, ⟨by omega, by omega⟩, ⟨x.2, ⟨by omega, by omega⟩, rfl⟩, h5⟩
theorem len_nextC (R W w : Nat) (c : Cell) : (nextC R W w c).length ≤ 9 := by
  unfold nextC
  rw [List.length_flatMap]
  have h : ∀ r, (((List.range' (c.2 - 1) (min (c.2 + 2) W - (c.2 - 1))).map fun k => (r, k)).filter (nxt w c)).length ≤ 3 := fun r => by
    refine Nat.le_trans (List.length_filter_le ..) ?_
    rw [List.length_map, List.length_range']
    omega
  have : ∀ (l : List Nat), (l.map fun r => (((List.range' (c.2 - 1) (min (c.2 + 2) W - (c.2 - 1))).map fun k => (r, k)).filter (nxt w c)).length).sum ≤ 3 * l.length := by
    intro l
    induction l with
    | nil => simp
    | cons a l ih => rw [List.map_cons, List.sum_cons, List.length_cons]; have := h a; omega
  refine Nat.le_trans (this _) ?_
  rw [List.length_range']
  omega
abbrev nc (b c w : D) (acc : List D) (x4 x5 : Option Sl) : Rho := [fz b, fz c, fz w, some (.ow (.lst acc)), x4, x5]
theorem next_cells_val {bd : List Str} {W w : Nat} (hg : Brd bd W) (hw : Ways w) {c : Cell} (hc : On bd.length W c) : f_next_cells [brd bd, cD c, .int (w : Int)] = M.ret (.lst ((nextC bd.length W w c).map cD)) := by
  have h8 := hg.r8
  have w8 := hg.w8
  obtain ⟨c1, c2⟩ := hc
  have hmax : ∀ n : Nat, maxM [.int ((n : Int) - 1), .int 0] = M.ret (.int ((n - 1 : Nat) : Int)) := fun n => by
    show M.ret (D.int (if (0 : Int) > (n : Int) - 1 then 0 else (n : Int) - 1)) = _
    congr 2
    split <;> omega
  have hmin : ∀ n m : Nat, minM [.int ((n : Int) + 2), .int (m : Int)] = M.ret (.int ((min (n + 2) m : Nat) : Int)) := fun n m => by
    show M.ret (D.int (if (m : Int) < (n : Int) + 2 then (m : Int) else (n : Int) + 2)) = _
    congr 2
    split <;> omega
  have inner : ∀ (r : Nat) (acc : List D), acc.length ≤ 16 → forL (putN 5) (sFgt [5] (sIf (dTru (callF 3 f_are_next (aC (dV 1) (aC (dA mkTup (aC (dV 4) (aC (dV 5) aN))) (aC (dV 2) aN))))) (sApp 3 (dA mkTup (aC (dV 4) (aC (dV 5) aN)))) sNil))
      ((List.range' (c.2 - 1) (min (c.2 + 2) W - (c.2 - 1))).map fun (k : Nat) => D.int (k : Int)) (nc (brd bd) (cD c) (.int (w : Int)) acc (fz (.int (r : Int))) none) =
      M.ret (.nx (nc (brd bd) (cD c) (.int (w : Int)) (acc ++ (List.range' (c.2 - 1) (min (c.2 + 2) W - (c.2 - 1))).flatMap fun k => if nxt w c (r, k) then [cD (r, k)] else []) (fz (.int (r : Int))) none)) := fun r acc hacc => by
    refine forL_app (fun (k : Nat) => D.int (k : Int)) (fun acc => nc (brd bd) (cD c) (.int (w : Int)) acc (fz (.int (r : Int))) none) (fun k => if nxt w c (r, k) then [cD (r, k)] else []) (B := 64) _ acc ?_ fun k hk acc hB => ?_
    · rw [List.length_append, List.length_flatMap]
      have : ∀ l : List Nat, (l.map fun k => (if nxt w c (r, k) then [cD (r, k)] else []).length).sum ≤ l.length := by
        intro l
        induction l with
        | nil => simp
        | cons a l ih => rw [List.map_cons, List.sum_cons, List.length_cons]; split <;> simp <;> omega
      have h2 := this (List.range' (c.2 - 1) (min (c.2 + 2) W - (c.2 - 1)))
      rw [List.length_range'] at h2
      omega
    · refine ⟨nc (brd bd) (cD c) (.int (w : Int)) acc (fz (.int (r : Int))) (fz (.int (k : Int))), rfl, ?_⟩
      have ht : dTru (callF 3 f_are_next (aC (dV 1) (aC (dA mkTup (aC (dV 4) (aC (dV 5) aN))) (aC (dV 2) aN)))) (nc (brd bd) (cD c) (.int (w : Int)) acc (fz (.int (r : Int))) (fz (.int (k : Int)))) = M.ret (nxt w c (r, k)) :=
        dTru_b ((callF_val (ds := [cD c, cD (r, k), .int (w : Int)]) rfl rfl).trans (are_next_val hw c (r, k)))
      cases hn : nxt w c (r, k) with
      | true =>
        rw [hn] at ht
        rw [hn, if_pos rfl, List.length_append] at hB
        refine (sFgt_nx (ρ' := nc (brd bd) (cD c) (.int (w : Int)) (acc ++ [cD (r, k)]) (fz (.int (r : Int))) (fz (.int (k : Int)))) (sIf_T ht ?_)).trans rfl
        show (if acc.length < lim then M.ret (Out.nx (nc (brd bd) (cD c) (.int (w : Int)) (acc ++ [cD (r, k)]) (fz (.int (r : Int))) (fz (.int (k : Int))))) else M.stuck) = _
        rw [if_pos (by rw [limv]; simp at hB; omega)]
      | false =>
        rw [hn] at ht
        refine (sFgt_nx (ρ' := nc (brd bd) (cD c) (.int (w : Int)) acc (fz (.int (r : Int))) (fz (.int (k : Int)))) (sIf_F ht rfl)).trans ?_
        simp
        rfl
  have flt : ∀ r, ((List.range' (c.2 - 1) (min (c.2 + 2) W - (c.2 - 1))).flatMap fun k => if nxt w c (r, k) then [cD (r, k)] else []) = (((List.range' (c.2 - 1) (min (c.2 + 2) W - (c.2 - 1))).map fun k => (r, k)).filter (nxt w c)).map cD := fun r => by
    generalize List.range' (c.2 - 1) (min (c.2 + 2) W - (c.2 - 1)) = l
    induction l with
    | nil => rfl
    | cons a l ih =>
      rw [List.flatMap_cons, ih, List.map_cons, List.filter_cons]
      cases nxt w c (r, a) <;> rfl
  have tot : (List.range' (c.1 - 1) (min (c.1 + 2) bd.length - (c.1 - 1))).flatMap (fun r => (((List.range' (c.2 - 1) (min (c.2 + 2) W - (c.2 - 1))).map fun k => (r, k)).filter (nxt w c)).map cD) = (nextC bd.length W w c).map cD := by
    unfold nextC; rw [List.map_flatMap]
  have outer := forL_app (put := putN 4) (body := sFgt [4, 5] (sFor (putN 5) (fun ρ => (aC (dA maxM (aC (d2 gSub (d2 gIxT (dV 1) (dC (.int 1))) (dC (.int 1))) (aC (dC (.int 0)) aN))) (aC (dA minM (aC (d2 gAdd (d2 gIxT (dV 1) (dC (.int 1))) (dC (.int 2))) (aC (dA lenM (aC (d2 gIxT (dV 0) (dC (.int 0))) aN)) aN))) aN)) ρ >>= rngM2) (sFgt [5] (sIf (dTru (callF 3 f_are_next (aC (dV 1) (aC (dA mkTup (aC (dV 4) (aC (dV 5) aN))) (aC (dV 2) aN))))) (sApp 3 (dA mkTup (aC (dV 4) (aC (dV 5) aN)))) sNil))))
    (fun (k : Nat) => D.int (k : Int)) (fun acc => nc (brd bd) (cD c) (.int (w : Int)) acc none none) (fun r => (((List.range' (c.2 - 1) (min (c.2 + 2) W - (c.2 - 1))).map fun k => (r, k)).filter (nxt w c)).map cD) (B := 16) (List.range' (c.1 - 1) (min (c.1 + 2) bd.length - (c.1 - 1))) []
    (by rw [List.nil_append, tot, List.length_map]; have := len_nextC bd.length W w c; omega) fun r hr acc hB => by
      refine ⟨nc (brd bd) (cD c) (.int (w : Int)) acc (fz (.int (r : Int))) none, rfl, ?_⟩
      have e := inner r acc (by rw [List.length_append] at hB; omega)
      rw [flt r] at e
      refine (sFgt_nx (sForL (rng2 (i := c.2 - 1) (j := min (c.2 + 2) W) ?_ ?_ (by omega) (by omega)) e)).trans rfl
      · exact (dA_val (xs := [.int ((c.2 : Int) - 1), .int 0]) rfl).trans (hmax c.2)
      · refine (dA_val (xs := [.int ((c.2 : Int) + 2), .int (W : Int)]) ?_).trans (hmin c.2 W)
        exact aC_val (show d2 gAdd (d2 gIxT (dV 1) (dC (.int 1))) (dC (.int 2)) (nc (brd bd) (cD c) (.int (w : Int)) acc (fz (.int (r : Int))) none) = M.ret (.int ((c.2 : Int) + 2)) from rfl) (aC_val (hg.len0 rfl) rfl)
  rw [List.nil_append, tot] at outer
  refine runD_rt (sSeq_nx (ρ' := nc (brd bd) (cD c) (.int (w : Int)) [] none none) rfl (sSeq_nx (ρ' := nc (brd bd) (cD c) (.int (w : Int)) ((nextC bd.length W w c).map cD) none none) (noex_nx (sForL (rng2 (i := c.1 - 1) (j := min (c.1 + 2) bd.length) ?_ ?_ (by omega) (by omega)) outer)) ?_))
  · exact (dA_val (xs := [.int ((c.1 : Int) - 1), .int 0]) rfl).trans (hmax c.1)
  · refine (dA_val (xs := [.int ((c.1 : Int) + 2), .int (bd.length : Int)]) ?_).trans (hmin c.1 bd.length)
    exact aC_val (show d2 gAdd (d2 gIxT (dV 1) (dC (.int 0))) (dC (.int 2)) (nc (brd bd) (cD c) (.int (w : Int)) [] none none) = M.ret (.int ((c.1 : Int) + 2)) from rfl) (aC_val (lenR rfl) rfl)
  · rfl
def likeC (bd : List Str) (W w : Nat) (c : Cell) : List Cell := (nextC bd.length W w c).filter fun x => decide (lt bd x = lt bd c)
theorem mem_likeC {bd : List Str} {W w : Nat} (hw : Ways w) {c x : Cell} : x ∈ likeC bd W w c ↔ On bd.length W x ∧ nxt w c x = true ∧ lt bd x = lt bd c := by
  unfold likeC
  rw [List.mem_filter, mem_nextC hw, decide_eq_true_eq, and_assoc]
theorem len_likeC (bd : List Str) (W w : Nat) (c : Cell) : (likeC bd W w c).length ≤ 9 := Nat.le_trans (List.length_filter_le ..) (len_nextC ..)
theorem compL_fil {α : Type} {f : D → M (Option D)} (enc : α → D) (p : α → Bool) : ∀ (xs : List α), (∀ x ∈ xs, f (enc x) = M.ret (if p x then some (enc x) else none)) → compL f (xs.map enc) = M.ret ((xs.filter p).map enc)
  | [], _ => rfl
  | x :: xs, h => by
    rw [List.map_cons, compL_cons, h x (List.mem_cons_self ..), bind_ret, compL_fil enc p xs fun y hy => h y (List.mem_cons_of_mem _ hy), List.filter_cons]
    cases p x <;> rfl
theorem like_cells_val {bd : List Str} {W w : Nat} (hg : Brd bd W) (hw : Ways w) {c : Cell} (hc : On bd.length W c) : f_like_cells [brd bd, cD c, .int (w : Int)] = M.ret (.lst ((likeC bd W w c).map cD)) := by
  refine runD_rt (sSeq_nx (ρ' := [fz (brd bd), fz (cD c), fz (.int (w : Int)), fz (sg (lt bd c))]) ((sSet_val (d := sg (lt bd c)) ((callF_val (ds := [brd bd, cD c]) rfl rfl).trans (letter_of_val hg hc))).trans rfl) (sRet_val ?_))
  refine dComp_val (ds := (nextC bd.length W w c).map cD) ?_ (compL_fil cD _ _ fun x hx => ?_) (by rw [List.length_map, limv]; exact Nat.le_trans (len_likeC bd W w c) (by decide))
  · show (callF 3 f_next_cells _ _ >>= lstM) = _
    have e : callF 3 f_next_cells (aC (dV 0) (aC (dV 1) (aC (dV 2) aN))) [fz (brd bd), fz (cD c), fz (.int (w : Int)), fz (sg (lt bd c))] = M.ret (.lst ((nextC bd.length W w c).map cD)) := next_cells_val hg hw hc
    rw [e]
    rfl
  · have hx' := (mem_nextC hw).mp hx
    rw [compFt]
    have e : tB' (d2 gEq (callF 2 f_letter_of (aC (dV 1) (aC (dV 0) aN))) (dV 4)) (fz (cD x) :: [fz (brd bd), fz (cD c), fz (.int (w : Int)), fz (sg (lt bd c))]) = M.ret (decide (lt bd x = lt bd c)) := by
      refine tB_b ?_
      exact (d2_val (x := sg (lt bd x)) (y := sg (lt bd c)) ((callF_val (ds := [brd bd, cD x]) rfl rfl).trans (letter_of_val hg hx'.1)) rfl).trans (eq_sg _ _)
    rw [e, bind_ret]
    cases decide (lt bd x = lt bd c) <;> rfl
end K1


set_option Elab.async false
set_option linter.all false
set_option maxRecDepth 100000
namespace K1
section
variable {α : Type} [DecidableEq α]
structure Bk (α : Type) where
  ks : List α
  ps : List (Option α)
  fu : List α
def bStep (c : α) (s : Bk α) (x : α) : Bk α := if x ∈ s.ks then s else ⟨s.ks ++ [x], s.ps ++ [some c], s.fu ++ [x]⟩
variable (nb : α → List α)
def bCell (s : Bk α) (c : α) : Bk α := (nb c).foldl (bStep c) s
def bRing (s : Bk α) (ring : List α) : Bk α := ring.foldl (bCell nb) s
def Rb (a : α) : Nat → α → Prop
  | 0, x => x = a
  | k + 1, x => Rb a k x ∨ ∃ y, Rb a k y ∧ x ∈ nb y
variable {nb} {a : α}
theorem Rb.mono {i j : Nat} {x : α} (h : i ≤ j) (r : Rb nb a i x) : Rb nb a j x := by
  induction h with
  | refl => exact r
  | step _ ih => exact .inl ih
structure Grown (P : α → α → Prop) (s t : Bk α) : Prop where
  ex : ∃ fs : List (α × α), t.ks = s.ks ++ fs.map (·.1) ∧ t.ps = s.ps ++ fs.map (fun p => some p.2) ∧ t.fu = s.fu ++ fs.map (·.1) ∧ (∀ p ∈ fs, P p.2 p.1)
  nd : s.ks.Nodup → t.ks.Nodup
theorem Grown.refl {P : α → α → Prop} (s : Bk α) : Grown P s s := ⟨⟨[], by simp, by simp, by simp, fun _ h => by cases h⟩, id⟩
theorem Grown.trans {P : α → α → Prop} {s t u : Bk α} (h1 : Grown P s t) (h2 : Grown P t u) : Grown P s u := by
  obtain ⟨fs, a1, a2, a3, a4⟩ := h1.ex
  obtain ⟨gs, b1, b2, b3, b4⟩ := h2.ex
  refine ⟨⟨fs ++ gs, by rw [b1, a1]; simp, by rw [b2, a2]; simp, by rw [b3, a3]; simp, fun p hp => ?_⟩, fun h => h2.nd (h1.nd h)⟩
  rcases List.mem_append.mp hp with h | h
  · exact a4 p h
  · exact b4 p h
theorem bStep_grown {P : α → α → Prop} {c x : α} (s : Bk α) (h : P c x) : Grown P s (bStep c s x) := by
  unfold bStep
  split
  · exact Grown.refl s
  · rename_i hx
    refine ⟨⟨[(x, c)], rfl, rfl, rfl, fun p hp => ?_⟩, fun hn => ?_⟩
    · have : p = (x, c) := by simpa using hp
      subst this; exact h
    · refine List.nodup_append.mpr ⟨hn, by simp, fun y hy z hz e => ?_⟩
      have hz : z = x := by simpa using hz
      rw [e, hz] at hy
      exact hx hy
theorem bStep_mem {c x y : α} (s : Bk α) : y ∈ (bStep c s x).ks ↔ y ∈ s.ks ∨ y = x := by
  unfold bStep
  split
  · rename_i hx
    exact ⟨.inl, fun h => h.elim id fun e => by rw [e]; exact hx⟩
  · simp
theorem foldStep {P : α → α → Prop} {c : α} : ∀ (l : List α) (s : Bk α), (∀ x ∈ l, P c x) → Grown P s (l.foldl (bStep c) s) ∧ ∀ y, y ∈ (l.foldl (bStep c) s).ks ↔ y ∈ s.ks ∨ y ∈ l
  | [], s, _ => ⟨Grown.refl s, fun y => by simp⟩
  | x :: l, s, h => by
    obtain ⟨h1, h2⟩ := foldStep l (bStep c s x) fun y hy => h y (List.mem_cons_of_mem _ hy)
    refine ⟨(bStep_grown s (h x (List.mem_cons_self ..))).trans h1, fun y => ?_⟩
    rw [List.foldl_cons, h2 y, bStep_mem]
    simp [or_assoc]
theorem foldCell {P : α → α → Prop} : ∀ (l : List α) (s : Bk α), (∀ c ∈ l, ∀ x ∈ nb c, P c x) → Grown P s (bRing nb s l) ∧ ∀ y, y ∈ (bRing nb s l).ks ↔ y ∈ s.ks ∨ ∃ c ∈ l, y ∈ nb c
  | [], s, _ => ⟨Grown.refl s, fun y => by simp [bRing]⟩
  | c :: l, s, h => by
    obtain ⟨g1, m1⟩ := foldStep (P := P) (c := c) (nb c) s (h c (List.mem_cons_self ..))
    obtain ⟨g2, m2⟩ := foldCell l (bCell nb s c) fun c' hc => h c' (List.mem_cons_of_mem _ hc)
    refine ⟨g1.trans g2, fun y => ?_⟩
    show y ∈ (bRing nb (bCell nb s c) l).ks ↔ _
    rw [m2 y]
    show (y ∈ ((nb c).foldl (bStep c) s).ks ∨ _) ↔ _
    rw [m1 y]
    simp [or_assoc]
structure Rng (nb : α → List α) (a : α) (k : Nat) (ks : List α) (ps : List (Option α)) (ring : List α) : Prop where
  len : ks.length = ps.length
  nd : ks.Nodup
  mem : ∀ x, x ∈ ks ↔ Rb nb a k x
  rg : ∀ x, x ∈ ring ↔ Rb nb a k x ∧ ∀ j, Rb nb a j x → k ≤ j
  par : ∀ x p, (x, some p) ∈ ks.zip ps → x ∈ nb p ∧ p ∈ ks ∧ ∀ j, Rb nb a j x → ∃ i, j = i + 1 ∧ Rb nb a i p
  non : ∀ x, (x, none) ∈ ks.zip ps → x = a
  sz : k ≤ ks.length ∧ (ring ≠ [] → k + 1 ≤ ks.length)
theorem Rng.zero (nb : α → List α) (a : α) : Rng nb a 0 [a] [none] [a] where
  len := rfl
  nd := by simp
  mem := fun x => by simp [Rb]
  rg := fun x => by simp [Rb]
  par := fun x p h => by simp at h
  non := fun x h => by simpa using h
  sz := ⟨by simp, fun _ => by simp⟩
theorem Rng.next {k : Nat} {ks : List α} {ps : List (Option α)} {ring : List α} (h : Rng nb a k ks ps ring) (hr : ring ≠ []) : Rng nb a (k + 1) (bRing nb ⟨ks, ps, []⟩ ring).ks (bRing nb ⟨ks, ps, []⟩ ring).ps (bRing nb ⟨ks, ps, []⟩ ring).fu := by
  obtain ⟨g, m⟩ := foldCell (nb := nb) (P := fun c x => c ∈ ring ∧ x ∈ nb c) ring ⟨ks, ps, []⟩ fun c hc x hx => ⟨hc, hx⟩
  obtain ⟨fs, e1, e2, e3, e4⟩ := g.ex
  have hnd := g.nd h.nd
  have hm : ∀ x, x ∈ (bRing nb ⟨ks, ps, []⟩ ring).ks ↔ Rb nb a (k + 1) x := fun x => by
    rw [m x]
    show (x ∈ ks ∨ _) ↔ (Rb nb a k x ∨ _)
    constructor
    · rintro (q | ⟨c, hc, hx⟩)
      · exact .inl ((h.mem x).mp q)
      · exact .inr ⟨c, ((h.rg c).mp hc).1, hx⟩
    · rintro (q | ⟨y, hy, hx⟩)
      · exact .inl ((h.mem x).mpr q)
      · by_cases hk : ∀ j, Rb nb a j y → k ≤ j
        · exact .inr ⟨y, (h.rg y).mpr ⟨hy, hk⟩, hx⟩
        · refine .inl ((h.mem x).mpr ?_)
          obtain ⟨j, hj⟩ := Classical.not_forall.mp hk
          obtain ⟨hj1, hj2⟩ := Classical.not_imp.mp hj
          exact Rb.mono (i := j + 1) (by omega) (.inr ⟨y, hj1, hx⟩)
  have e1' : (bRing nb ⟨ks, ps, []⟩ ring).ks = ks ++ fs.map (·.1) := e1
  have e2' : (bRing nb ⟨ks, ps, []⟩ ring).ps = ps ++ fs.map (fun p => some p.2) := e2
  have e3' : (bRing nb ⟨ks, ps, []⟩ ring).fu = fs.map (·.1) := e3
  have new : ∀ x, x ∈ fs.map (·.1) → ¬ Rb nb a k x := fun x hx hk => by
    rw [e1'] at hnd
    exact (List.nodup_append.mp hnd).2.2 x ((h.mem x).mpr hk) x hx rfl
  have late : ∀ x, ¬ Rb nb a k x → ∀ j, Rb nb a j x → k + 1 ≤ j := fun x hx j hj => by
    by_cases hjk : k + 1 ≤ j
    · exact hjk
    · exact absurd (Rb.mono (by omega) hj) hx
  have hzip : (bRing nb ⟨ks, ps, []⟩ ring).ks.zip (bRing nb ⟨ks, ps, []⟩ ring).ps = ks.zip ps ++ fs.map fun p => (p.1, some p.2) := by
    rw [e1', e2', List.zip_append h.len]
    congr 1
    rw [List.zip_map']
  refine ⟨?_, hnd, hm, fun x => ?_, fun x p hp => ?_, fun x hx => ?_, ?_⟩
  · rw [e1', e2', List.length_append, List.length_append, List.length_map, List.length_map, h.len]
  · rw [e3']
    constructor
    · intro hx
      exact ⟨(hm x).mp (by rw [e1']; exact List.mem_append_right _ hx), late x (new x hx)⟩
    · rintro ⟨h1, h2⟩
      have h3 := (hm x).mpr h1
      rw [e1'] at h3
      rcases List.mem_append.mp h3 with q | q
      · have := h2 k ((h.mem x).mp q)
        omega
      · exact q
  · rw [hzip] at hp
    rcases List.mem_append.mp hp with q | q
    · obtain ⟨q1, q2, q3⟩ := h.par x p q
      exact ⟨q1, by rw [e1']; exact List.mem_append_left _ q2, q3⟩
    · obtain ⟨f, hf, e⟩ := List.mem_map.mp q
      cases e
      obtain ⟨f1, f2⟩ := e4 f hf
      have hc := (h.rg f.2).mp f1
      refine ⟨f2, by rw [e1']; exact List.mem_append_left _ ((h.mem _).mpr hc.1), fun j hj => ?_⟩
      have := late f.1 (new f.1 (List.mem_map.mpr ⟨f, hf, rfl⟩)) j hj
      exact ⟨j - 1, by omega, Rb.mono (by omega) hc.1⟩
  · rw [hzip] at hx
    rcases List.mem_append.mp hx with q | q
    · exact h.non x q
    · obtain ⟨f, hf, e⟩ := List.mem_map.mp q
      cases e
  · have hs := h.sz.2 hr
    rw [e1', List.length_append, List.length_map]
    refine ⟨by omega, fun hne => ?_⟩
    have : fs ≠ [] := fun z => hne (by rw [e3', z]; rfl)
    have := List.length_pos_iff.mpr this
    omega
theorem Rng.last {k : Nat} {ks : List α} {ps : List (Option α)} (h : Rng nb a k ks ps []) : ∀ x, x ∈ ks ↔ ∃ j, Rb nb a j x := by
  have none : ∀ x, ¬ (Rb nb a k x ∧ ∀ j, Rb nb a j x → k ≤ j) := fun x q => by
    have := (h.rg x).mpr q
    cases this
  have hk : ∀ x, Rb nb a k x → ∃ i, i < k ∧ Rb nb a i x := fun x hx => by
    by_cases q : ∀ j, Rb nb a j x → k ≤ j
    · exact absurd ⟨hx, q⟩ (none x)
    · obtain ⟨j, hj⟩ := Classical.not_forall.mp q
      obtain ⟨hj1, hj2⟩ := Classical.not_imp.mp hj
      exact ⟨j, by omega, hj1⟩
  have all : ∀ j x, Rb nb a j x → Rb nb a k x := by
    intro j
    induction j with
    | zero => intro x hx; exact Rb.mono (Nat.zero_le _) hx
    | succ j ih =>
      rintro x (q | ⟨y, hy, hx⟩)
      · exact ih x q
      · obtain ⟨i, hi, hr⟩ := hk y (ih y hy)
        exact Rb.mono (i := i + 1) (by omega) (.inr ⟨y, hr, hx⟩)
  exact fun x => ⟨fun q => ⟨k, (h.mem x).mp q⟩, fun ⟨j, hj⟩ => (h.mem x).mpr (all j x hj)⟩
theorem nodup_le {l U : List α} (hn : l.Nodup) (h : ∀ x ∈ l, x ∈ U) : l.length ≤ U.length := by
  induction l generalizing U with
  | nil => simp
  | cons a l ih =>
    rw [List.nodup_cons] at hn
    have hl : ∀ x ∈ l, x ∈ U.erase a := fun x hx => by
      have hne : x ≠ a := fun z => hn.1 (by rw [← z]; exact hx)
      exact (List.mem_erase_of_ne hne).mpr (h x (List.mem_cons_of_mem _ hx))
    have h1 := ih hn.2 hl
    have h2 := List.length_erase_of_mem (h a (List.mem_cons_self ..))
    have h3 := List.length_pos_of_mem (h a (List.mem_cons_self ..))
    rw [List.length_cons]
    omega
end
end K1


set_option Elab.async false
set_option linter.all false
set_option maxRecDepth 100000
namespace K1
open PySem L2 L3
def keyOf (c : Cell) : List Key := [.inl (c.1 : Int), .inl (c.2 : Int)]
theorem keyOf_inj {a b : Cell} (h : keyOf a = keyOf b) : a = b := by
  unfold keyOf at h
  injection h with h1 h2
  injection h1 with h1
  injection h2 with h2 _
  injection h2 with h2
  exact Prod.ext (Int.ofNat.inj h1) (Int.ofNat.inj h2)
theorem keyT_cD (c : Cell) : keyT (cD c) = some (keyOf c) := rfl
theorem valD_none {c : Cell} : ∀ {ks : List Cell} {ds : List D}, c ∉ ks → valD (ks.map keyOf) ds (keyOf c) = none
  | [], _, _ => by simp [valD]
  | k :: ks, [], _ => by simp [valD]
  | k :: ks, d :: ds, h => by
    rw [List.map_cons]
    unfold valD
    rw [if_neg (fun z => h (by rw [keyOf_inj z]; exact List.mem_cons_self ..))]
    exact valD_none fun z => h (List.mem_cons_of_mem _ z)
theorem valD_some {c : Cell} : ∀ {ks : List Cell} {ds : List D}, ks.length = ds.length → c ∈ ks → ∃ d, valD (ks.map keyOf) ds (keyOf c) = some d ∧ (c, d) ∈ ks.zip ds
  | [], _, _, h => by cases h
  | k :: ks, [], hl, _ => by simp at hl
  | k :: ks, d :: ds, hl, h => by
    rw [List.map_cons]
    unfold valD
    by_cases hk : k = c
    · subst hk
      rw [if_pos rfl]
      exact ⟨d, rfl, by simp⟩
    · rw [if_neg (fun z => hk (keyOf_inj z))]
      have hc : c ∈ ks := by
        rcases List.mem_cons.mp h with q | q
        · exact absurd q.symm hk
        · exact q
      obtain ⟨d', e1, e2⟩ := valD_some (ds := ds) (by simpa using hl) hc
      exact ⟨d', e1, by simp [e2]⟩
theorem inD_val {neg : Bool} {ks : List Cell} {ds : List D} {c : Cell} (hl : ks.length = ds.length) : gInD neg (cD c) (.dct (ks.map keyOf) ds) = M.ret (.bl (if neg then !decide (c ∈ ks) else decide (c ∈ ks))) := by
  show (match (keyT (cD c)).map (valD (ks.map keyOf) ds) with | some o => M.ret (D.bl (if neg then !o.isSome else o.isSome)) | none => M.stuck) = _
  rw [keyT_cD]
  show M.ret (D.bl (if neg then !(valD (ks.map keyOf) ds (keyOf c)).isSome else (valD (ks.map keyOf) ds (keyOf c)).isSome)) = _
  by_cases h : c ∈ ks
  · obtain ⟨d, e, _⟩ := valD_some hl h
    rw [e, decide_eq_true h]; rfl
  · rw [valD_none h, decide_eq_false h]; rfl
theorem putC_new {ks : List Cell} {ds : List D} {c : Cell} {d : D} (h : c ∉ ks) (hl : ds.length < lim) : putC (.dct (ks.map keyOf) ds) (cD c) d = some (.dct ((ks ++ [c]).map keyOf) (ds ++ [d])) := by
  show (match keyT (cD c) with | some kk => if ds.length < lim then some (C.dct (putKs (ks.map keyOf) ds kk) (putDs (ks.map keyOf) ds kk d)) else none | none => none) = _
  rw [keyT_cD]
  show (if ds.length < lim then some (C.dct (putKs (ks.map keyOf) ds (keyOf c)) (putDs (ks.map keyOf) ds (keyOf c) d)) else none) = _
  rw [if_pos hl]
  unfold putKs putDs
  rw [valD_none h]
  simp
theorem tTf_b {τ : DT} {ρ : Rho} {b : Bool} (h : τ (frA ρ) = M.ret b) : tTf τ ρ = M.ret b := by
  unfold tTf
  rw [h]
  rfl
theorem dTf_b {δ : DE} {ρ : Rho} {d : D} (h : δ (frA ρ) = M.ret d) (hf : flatD d = true) : dTf δ ρ = M.ret d := by
  unfold dTf
  rw [h]
  show flatM d = _
  unfold flatM
  rw [hf]
  rfl
theorem flat_cD (c : Cell) : flatD (cD c) = true := rfl
theorem whileL_T {c : DT} {body : DS} {n : Nat} {ρ ρ' : Rho} {m : M Out} (h1 : c ρ = M.ret true) (h2 : body ρ = M.ret (.nx ρ')) (h3 : whileL c body n ρ' = m) : whileL c body (n + 1) ρ = m := by
  show (c ρ >>= fun b => if b then body ρ >>= fun o => match o with | .nx ρ' => whileL c body n ρ' | .rt d => M.ret (.rt d) else M.ret (.nx ρ)) = _
  rw [h1, bind_ret, if_pos rfl, h2]
  exact h3
theorem whileL_F {c : DT} {body : DS} {n : Nat} {ρ : Rho} (h1 : c ρ = M.ret false) : whileL c body (n + 1) ρ = M.ret (.nx ρ) := by
  show (c ρ >>= fun b => if b then body ρ >>= fun o => match o with | .nx ρ' => whileL c body n ρ' | .rt d => M.ret (.rt d) else M.ret (.nx ρ)) = _
  rw [h1]
  rfl
def parD : Option Cell → D
  | none => .non
  | some c => cD c
abbrev backC (ks : List Cell) (ps : List (Option Cell)) : C := .dct (ks.map keyOf) (ps.map parD)
abbrev backD (ks : List Cell) (ps : List (Option Cell)) : D := .dct (ks.map keyOf) (ps.map parD)
abbrev sb (b s w : D) (ks : List Cell) (ps : List (Option Cell)) (x4 x5 x6 x7 : Option Sl) : Rho := [fz b, fz s, fz w, some (.ow (backC ks ps)), x4, x5, x6, x7]
structure Bok (R W : Nat) (s : Bk Cell) : Prop where
  len : s.ks.length = s.ps.length
  nd : s.ks.Nodup
  on : ∀ x ∈ s.ks, On R W x
  fu : s.fu.length ≤ s.ks.length
theorem Bok.le {R W : Nat} {s : Bk Cell} (h : Bok R W s) : s.ks.length ≤ R * W := by
  rw [← len_cellsN R W]
  exact nodup_le h.nd fun x hx => mem_cellsN.mpr (h.on x hx)
theorem Bok.step {R W : Nat} {s : Bk Cell} (h : Bok R W s) {c x : Cell} (hx : On R W x) : Bok R W (bStep c s x) := by
  unfold bStep
  split
  · exact h
  · rename_i hn
    refine ⟨by simp [h.len], ?_, fun y hy => ?_, by simp; exact h.fu⟩
    · refine List.nodup_append.mpr ⟨h.nd, by simp, fun y hy z hz e => ?_⟩
      have hz : z = x := by simpa using hz
      rw [e, hz] at hy
      exact hn hy
    · rcases List.mem_append.mp hy with q | q
      · exact h.on y q
      · have : y = x := by simpa using q
        rw [this]; exact hx
def sbB2 : DS := sFgt [7] (sIf (tTf (tB' (d2 (gInD true) (dV 7) (dV 3)))) (sSeq (sPutO 3 (dV 7) (dV 6)) (sApp 5 (dV 7))) sNil)
theorem sb_step {bd : List Str} {W : Nat} (hg : Brd bd W) {a c x : Cell} {w : D} {r : Option Sl} {s : Bk Cell} (h : Bok bd.length W s) :
    sbB2 (sb (brd bd) (cD a) w s.ks s.ps r (some (.ow (.lst (s.fu.map cD)))) (fz (cD c)) (fz (cD x))) = M.ret (.nx (sb (brd bd) (cD a) w (bStep c s x).ks (bStep c s x).ps r (some (.ow (.lst ((bStep c s x).fu.map cD)))) (fz (cD c)) none)) := by
  have hle := h.le
  have hm : bd.length * W ≤ 64 := Nat.mul_le_mul hg.r8 hg.w8
  have ht : tTf (tB' (d2 (gInD true) (dV 7) (dV 3))) (sb (brd bd) (cD a) w s.ks s.ps r (some (.ow (.lst (s.fu.map cD)))) (fz (cD c)) (fz (cD x))) = M.ret (!decide (x ∈ s.ks)) :=
    tTf_b (tB_b ((d2_val (x := cD x) (y := backD s.ks s.ps) rfl rfl).trans (inD_val (neg := true) (by rw [List.length_map]; exact h.len))))
  by_cases hx : x ∈ s.ks
  · rw [decide_eq_true hx] at ht
    have e : bStep c s x = s := if_pos hx
    rw [e]
    exact (sFgt_nx (sIf_F ht rfl)).trans rfl
  · rw [decide_eq_false hx] at ht
    have e : bStep c s x = ⟨s.ks ++ [x], s.ps ++ [some c], s.fu ++ [x]⟩ := if_neg hx
    rw [e]
    refine (sFgt_nx (ρ' := sb (brd bd) (cD a) w (s.ks ++ [x]) (s.ps ++ [some c]) r (some (.ow (.lst ((s.fu ++ [x]).map cD)))) (fz (cD c)) (fz (cD x))) (sIf_T ht (sSeq_nx (ρ' := sb (brd bd) (cD a) w (s.ks ++ [x]) (s.ps ++ [some c]) r (some (.ow (.lst (s.fu.map cD)))) (fz (cD c)) (fz (cD x))) ?_ ?_))).trans rfl
    · show (match putC (backC s.ks s.ps) (cD x) (cD c) with | some c' => M.ret (Out.nx (List.set (sb (brd bd) (cD a) w s.ks s.ps r (some (.ow (.lst (s.fu.map cD)))) (fz (cD c)) (fz (cD x))) 3 (some (.ow c')))) | none => M.stuck) = _
      rw [putC_new hx (by rw [List.length_map, ← h.len, limv]; omega)]
      rw [show s.ps.map parD ++ [cD c] = (s.ps ++ [some c]).map parD by simp [parD]]
      rfl
    · show (if (s.fu.map cD).length < lim then M.ret (Out.nx (sb (brd bd) (cD a) w (s.ks ++ [x]) (s.ps ++ [some c]) r (some (.ow (.lst (s.fu.map cD ++ [cD x])))) (fz (cD c)) (fz (cD x)))) else M.stuck) = _
      have := h.fu
      rw [if_pos (by rw [List.length_map, limv]; omega)]
      rw [show s.fu.map cD ++ [cD x] = (s.fu ++ [x]).map cD by simp]
def sbB1 : DS := sFgt [6, 7] (sFor (putN 7) (dItL (callF 3 f_like_cells (aC (dV 0) (aC (dV 6) (aC (dV 2) aN))))) sbB2)
theorem sb_cell {bd : List Str} {W w : Nat} (hg : Brd bd W) (hw : Ways w) {a c : Cell} (hc : On bd.length W c) {r : Option Sl} {s : Bk Cell} (h : Bok bd.length W s) :
    Bok bd.length W (bCell (likeC bd W w) s c) ∧ sbB1 (sb (brd bd) (cD a) (.int (w : Int)) s.ks s.ps r (some (.ow (.lst (s.fu.map cD)))) (fz (cD c)) none) =
      M.ret (.nx (sb (brd bd) (cD a) (.int (w : Int)) (bCell (likeC bd W w) s c).ks (bCell (likeC bd W w) s c).ps r (some (.ow (.lst ((bCell (likeC bd W w) s c).fu.map cD)))) none none)) := by
  obtain ⟨h1, e⟩ := forL_fold (put := putN 7) (body := sbB2) cD (fun s : Bk Cell => sb (brd bd) (cD a) (.int (w : Int)) s.ks s.ps r (some (.ow (.lst (s.fu.map cD)))) (fz (cD c)) none) (bStep c) (Bok bd.length W) (likeC bd W w c) s h fun s hs x hx =>
    ⟨hs.step ((mem_likeC hw).mp hx).1, _, rfl, sb_step hg hs⟩
  refine ⟨h1, (sFgt_nx (sForL ?_ e)).trans rfl⟩
  show (callF 3 f_like_cells (aC (dV 0) (aC (dV 6) (aC (dV 2) aN))) (sb (brd bd) (cD a) (.int (w : Int)) s.ks s.ps r (some (.ow (.lst (s.fu.map cD)))) (fz (cD c)) none) >>= lstM) = _
  have e2 : callF 3 f_like_cells (aC (dV 0) (aC (dV 6) (aC (dV 2) aN))) (sb (brd bd) (cD a) (.int (w : Int)) s.ks s.ps r (some (.ow (.lst (s.fu.map cD)))) (fz (cD c)) none) = M.ret (.lst ((likeC bd W w c).map cD)) := like_cells_val hg hw hc
  rw [e2]
  rfl
def sbB0 : DS := sFgt [5, 6, 7] (sSeq (sNew 5) (sSeq (sFor (putN 6) (dItL (dV 4)) sbB1) (sFz 5 (sSet 4 (dV 5)))))
theorem sb_ring {bd : List Str} {W w : Nat} (hg : Brd bd W) (hw : Ways w) {a : Cell} {ring : List Cell} (hr : ∀ c ∈ ring, On bd.length W c) {s : Bk Cell} (h : Bok bd.length W s) (hf : s.fu = []) :
    Bok bd.length W (bRing (likeC bd W w) s ring) ∧ sbB0 (sb (brd bd) (cD a) (.int (w : Int)) s.ks s.ps (fz (.lst (ring.map cD))) none none none) =
      M.ret (.nx (sb (brd bd) (cD a) (.int (w : Int)) (bRing (likeC bd W w) s ring).ks (bRing (likeC bd W w) s ring).ps (fz (.lst ((bRing (likeC bd W w) s ring).fu.map cD))) none none none)) := by
  obtain ⟨h1, e⟩ := forL_fold (put := putN 6) (body := sbB1) cD (fun s : Bk Cell => sb (brd bd) (cD a) (.int (w : Int)) s.ks s.ps (fz (.lst (ring.map cD))) (some (.ow (.lst (s.fu.map cD)))) none none) (bCell (likeC bd W w)) (Bok bd.length W) ring s h fun s hs c hc =>
    ⟨(sb_cell (a := a) (r := fz (.lst (ring.map cD))) hg hw (hr c hc) hs).1, _, rfl, (sb_cell hg hw (hr c hc) hs).2⟩
  refine ⟨h1, (sFgt_nx (ρ' := sb (brd bd) (cD a) (.int (w : Int)) (bRing (likeC bd W w) s ring).ks (bRing (likeC bd W w) s ring).ps (fz (.lst ((bRing (likeC bd W w) s ring).fu.map cD))) (fz (.lst ((bRing (likeC bd W w) s ring).fu.map cD))) none none) ?_).trans rfl⟩
  refine sSeq_nx (ρ' := sb (brd bd) (cD a) (.int (w : Int)) s.ks s.ps (fz (.lst (ring.map cD))) (some (.ow (.lst []))) none none) rfl (sSeq_nx (ρ' := sb (brd bd) (cD a) (.int (w : Int)) (bRing (likeC bd W w) s ring).ks (bRing (likeC bd W w) s ring).ps (fz (.lst (ring.map cD))) (some (.ow (.lst ((bRing (likeC bd W w) s ring).fu.map cD)))) none none) ?_ rfl)
  rw [hf] at e
  exact sForL rfl e
theorem sb_while {bd : List Str} {W w : Nat} (hg : Brd bd W) (hw : Ways w) {a : Cell} (ha : On bd.length W a) : ∀ (fuel k : Nat) (ks : List Cell) (ps : List (Option Cell)) (ring : List Cell), bd.length * W + 2 ≤ fuel + k → Rng (likeC bd W w) a k ks ps ring → (∀ x ∈ ks, On bd.length W x) →
    ∃ k' ks' ps', Rng (likeC bd W w) a k' ks' ps' [] ∧ (∀ x ∈ ks', On bd.length W x) ∧ whileL (dTru (dV 4)) sbB0 fuel (sb (brd bd) (cD a) (.int (w : Int)) ks ps (fz (.lst (ring.map cD))) none none none) = M.ret (.nx (sb (brd bd) (cD a) (.int (w : Int)) ks' ps' (fz (.lst [])) none none none))
  | 0, k, ks, ps, ring, hf, hR, hon => by
    have h1 : ks.length ≤ bd.length * W := by
      rw [← len_cellsN bd.length W]
      exact nodup_le hR.nd fun x hx => mem_cellsN.mpr (hon x hx)
    have := hR.sz.1
    omega
  | fuel + 1, k, ks, ps, [], hf, hR, hon => ⟨k, ks, ps, hR, hon, whileL_F rfl⟩
  | fuel + 1, k, ks, ps, c :: ring, hf, hR, hon => by
    have hne : c :: ring ≠ [] := by simp
    have hN := hR.next hne
    have hro : ∀ x ∈ c :: ring, On bd.length W x := fun x hx => hon x ((hR.mem x).mpr ((hR.rg x).mp hx).1)
    obtain ⟨hb, e⟩ := sb_ring (a := a) hg hw hro (s := ⟨ks, ps, []⟩) ⟨hR.len, hR.nd, hon, Nat.zero_le _⟩ rfl
    obtain ⟨k', ks', ps', q1, q2, q3⟩ := sb_while hg hw ha fuel (k + 1) _ _ _ (by omega) hN hb.on
    exact ⟨k', ks', ps', q1, q2, whileL_T rfl e q3⟩
theorem steps_back_val {bd : List Str} {W w : Nat} (hg : Brd bd W) (hw : Ways w) {a : Cell} (ha : On bd.length W a) :
    ∃ k ks ps, Rng (likeC bd W w) a k ks ps [] ∧ (∀ x ∈ ks, On bd.length W x) ∧ f_steps_back [brd bd, cD a, .int (w : Int)] = M.ret (backD ks ps) := by
  have hm : bd.length * W ≤ 64 := Nat.mul_le_mul hg.r8 hg.w8
  obtain ⟨k, ks, ps, h1, h2, h3⟩ := sb_while hg hw ha lim 0 [a] [none] [a] (by rw [limv]; omega) (Rng.zero _ _) (fun x hx => (show x = a by simpa using hx) ▸ ha)
  refine ⟨k, ks, ps, h1, h2, runD_rt (sSeq_nx (ρ' := [fz (brd bd), fz (cD a), fz (.int (w : Int)), some (.ow (backC [a] [none])), none, none, none, none]) rfl (sSeq_nx (ρ' := sb (brd bd) (cD a) (.int (w : Int)) [a] [none] (fz (.lst [cD a])) none none none) rfl (sSeq_nx (ρ' := sb (brd bd) (cD a) (.int (w : Int)) ks ps (fz (.lst [])) none none none) (noex_nx h3) rfl)))⟩
end K1


set_option Elab.async false
set_option linter.all false
set_option maxRecDepth 100000
namespace K1
open PySem L2 L3
def EncOk {α : Type} [DecidableEq α] (n : Nat) (enc : α → D) : Prop := ∀ k x y, eqF (n + k) (enc x) (enc y) = some (decide (x = y))
theorem eqF_int (n : Nat) (i j : Int) : eqF n (.int i) (.int j) = some (i == j) := by cases n <;> rfl
theorem eqL_map {α : Type} [DecidableEq α] {enc : α → D} {f : D → D → Option Bool} (h : ∀ x y, f (enc x) (enc y) = some (decide (x = y))) : ∀ (xs ys : List α), eqL f (xs.map enc) (ys.map enc) = some (decide (xs = ys))
  | [], [] => rfl
  | [], _ :: _ => by simp [eqL]
  | _ :: _, [] => by simp [eqL]
  | x :: xs, y :: ys => by
    rw [List.map_cons, List.map_cons]
    show (match f (enc x) (enc y), eqL f (xs.map enc) (ys.map enc) with | some b, some r => some (b && r) | _, _ => none) = _
    rw [h, eqL_map h xs ys]
    show some (decide (x = y) && decide (xs = ys)) = _
    congr 1
    by_cases h1 : x = y <;> by_cases h2 : xs = ys <;> simp [h1, h2]
theorem enc_cD : EncOk 1 cD := fun k a b => by
  rw [Nat.add_comm]
  show (match eqF k (.int (a.1 : Int)) (.int (b.1 : Int)), eqL (eqF k) [.int (a.2 : Int)] [.int (b.2 : Int)] with | some b, some r => some (b && r) | _, _ => none) = _
  rw [eqF_int]
  show (match some ((a.1 : Int) == (b.1 : Int)), (match eqF k (.int (a.2 : Int)) (.int (b.2 : Int)), eqL (eqF k) [] [] with | some b, some r => some (b && r) | _, _ => none) with | some b, some r => some (b && r) | _, _ => none) = _
  rw [eqF_int]
  show some (((a.1 : Int) == (b.1 : Int)) && (((a.2 : Int) == (b.2 : Int)) && true)) = _
  rw [natEq, natEq, Bool.and_true]
  congr 1
  obtain ⟨a1, a2⟩ := a
  obtain ⟨b1, b2⟩ := b
  by_cases h1 : a1 = b1 <;> by_cases h2 : a2 = b2 <;> simp [h1, h2]
theorem enc_lst {α : Type} [DecidableEq α] {enc : α → D} {n : Nat} (h : EncOk n enc) : EncOk (n + 1) (fun l : List α => .lst (l.map enc)) := fun k x y => by
  rw [show n + 1 + k = (n + k) + 1 by omega]
  exact eqL_map (h k) x y
theorem enc_eq {α : Type} [DecidableEq α] {enc : α → D} {n : Nat} (h : EncOk n enc) (hn : n ≤ 6) (x y : α) : gEq (enc x) (enc y) = M.ret (.bl (decide (x = y))) := by
  have := h (6 - n) x y
  rw [show n + (6 - n) = 6 by omega] at this
  unfold gEq
  rw [this]
theorem enc_ne {α : Type} [DecidableEq α] {enc : α → D} {n : Nat} (h : EncOk n enc) (hn : n ≤ 6) (x y : α) : gNe (enc x) (enc y) = M.ret (.bl (!decide (x = y))) := by
  have := h (6 - n) x y
  rw [show n + (6 - n) = 6 by omega] at this
  unfold gNe
  rw [this]
abbrev cL (l : List Cell) : D := .lst (l.map cD)
theorem ne_cD (a b : Cell) : gNe (cD a) (cD b) = M.ret (.bl (!decide (a = b))) := enc_ne enc_cD (by decide) a b
theorem ne_cL (a b : List Cell) : gNe (cL a) (cL b) = M.ret (.bl (!decide (a = b))) := enc_ne (enc_lst enc_cD) (by decide) a b
def ic (c : Cell) : List Int := [(c.1 : Int), (c.2 : Int)]
def clt (a b : Cell) : Bool := if a.1 = b.1 then decide (a.2 < b.2) else decide (a.1 < b.1)
def insC (k : Cell) : List Cell → List Cell
  | [] => [k]
  | x :: r => if clt k x then k :: x :: r else x :: insC k r
def sortC : List Cell → List Cell
  | [] => []
  | k :: r => insC k (sortC r)
theorem lex_ic (a b : Cell) : lexI (ic a) (ic b) = clt a b := by
  show (if (a.1 : Int) = (b.1 : Int) then (if (a.2 : Int) = (b.2 : Int) then false else decide ((a.2 : Int) < (b.2 : Int))) else decide ((a.1 : Int) < (b.1 : Int))) = _
  unfold clt
  by_cases h : a.1 = b.1
  · rw [if_pos h, if_pos (by omega)]
    by_cases h2 : a.2 = b.2
    · rw [if_pos (by omega), h2]; simp
    · rw [if_neg (by omega)]
      by_cases h3 : a.2 < b.2
      · rw [decide_eq_true h3, decide_eq_true (by omega)]
      · rw [decide_eq_false h3, decide_eq_false (by omega)]
  · rw [if_neg h, if_neg (by omega)]
    by_cases h3 : a.1 < b.1
    · rw [decide_eq_true h3, decide_eq_true (by omega)]
    · rw [decide_eq_false h3, decide_eq_false (by omega)]
theorem ins_ic (k : Cell) : ∀ l : List Cell, insI (ic k) (l.map ic) = (insC k l).map ic
  | [] => rfl
  | x :: r => by
    rw [List.map_cons]
    unfold insI insC
    rw [lex_ic]
    cases clt k x with
    | true => rfl
    | false => rw [if_neg (by decide), if_neg (by decide), List.map_cons, ins_ic k r]
theorem sort_ic : ∀ l : List Cell, sortI (l.map ic) = (sortC l).map ic
  | [] => rfl
  | k :: r => by
    rw [List.map_cons]
    unfold sortI sortC
    rw [sort_ic r, ins_ic]
theorem ic_inj {a b : Cell} (h : ic a = ic b) : a = b := by
  unfold ic at h
  injection h with h1 h2
  injection h2 with h2 _
  exact Prod.ext (Int.ofNat.inj h1) (Int.ofNat.inj h2)
theorem mem_sortC {x : Cell} {l : List Cell} : x ∈ sortC l ↔ x ∈ l := by
  have h := sortI_mem (x := ic x) (l := l.map ic)
  rw [sort_ic] at h
  constructor
  · intro hx
    obtain ⟨y, hy, e⟩ := List.mem_map.mp (h.mp (List.mem_map.mpr ⟨x, hx, rfl⟩))
    rw [← ic_inj e]; exact hy
  · intro hx
    obtain ⟨y, hy, e⟩ := List.mem_map.mp (h.mpr (List.mem_map.mpr ⟨x, hx, rfl⟩))
    rw [← ic_inj e]; exact hy
def RiseC (l : List Cell) : Prop := l.Pairwise fun a b => clt a b = true
theorem rise_ic {l : List Cell} : Rise (l.map ic) ↔ RiseC l := by
  unfold Rise RiseC
  rw [List.pairwise_map]
  constructor <;> intro h <;> refine List.Pairwise.imp ?_ h <;> intro a b q
  · rw [← lex_ic]; exact q
  · rw [lex_ic]; exact q
theorem nodup_ic {l : List Cell} (h : l.Nodup) : (l.map ic).Nodup := by
  unfold List.Nodup at h ⊢
  rw [List.pairwise_map]
  exact List.Pairwise.imp (fun h z => h (ic_inj z)) h
theorem sortC_rise {l : List Cell} (h : l.Nodup) : RiseC (sortC l) := by
  have := sortI_rise (nodup_ic h)
  rw [sort_ic] at this
  exact rise_ic.mp this
theorem RiseC.nodup {l : List Cell} (h : RiseC l) : l.Nodup := by
  refine List.Pairwise.imp ?_ h
  intro a b q z
  subst z
  unfold clt at q
  rw [if_pos rfl] at q
  have := of_decide_eq_true q
  omega
theorem ints_keys : ∀ ks : List Cell, intsKs (ks.map keyOf) = some (ks.map ic)
  | [] => rfl
  | k :: r => by
    show (match intsK (keyOf k), intsKs (r.map keyOf) with | some x, some xs => some (x :: xs) | _, _ => none) = _
    rw [ints_keys r]
    rfl
theorem ok_ic {ks : List Cell} (h : ks.Nodup) (hl : ks.length < 64) : okKeys (ks.map ic) = true := by
  unfold okKeys
  rw [List.length_map, decide_eq_true (nodup_ic h), decide_eq_true hl]
  simp
  intro a b _ z
  cases z
theorem srtD_val {ks : List Cell} {ds : List D} (h : ks.Nodup) (hl : ks.length < 64) : srtDM [.dct (ks.map keyOf) ds] = M.ret (cL (sortC ks)) := by
  show (match intsKs (ks.map keyOf) with | some ks => if okKeys ks && ks.all (fun k => decide (k.length ≤ lim)) then M.ret (D.lst ((sortI ks).map tupI)) else M.stuck | none => M.stuck) = _
  rw [ints_keys]
  show (if okKeys (ks.map ic) && (ks.map ic).all (fun k => decide (k.length ≤ lim)) then M.ret (D.lst ((sortI (ks.map ic)).map tupI)) else M.stuck) = _
  rw [ok_ic h hl]
  have : (ks.map ic).all (fun k => decide (k.length ≤ lim)) = true := by
    simp
    intro a b _
    show 2 ≤ lim
    decide
  rw [this, Bool.and_true, if_pos rfl, sort_ic, List.map_map]
  rfl
def Cn (bd : List Str) (W w : Nat) (a b : Cell) : Prop := ∃ j, Rb (likeC bd W w) a j b
theorem Cn.refl {bd : List Str} {W w : Nat} {a : Cell} : Cn bd W w a a := ⟨0, rfl⟩
theorem likeC_symm {bd : List Str} {W w : Nat} (hw : Ways w) {a b : Cell} (ha : On bd.length W a) (h : b ∈ likeC bd W w a) : a ∈ likeC bd W w b := by
  obtain ⟨h1, h2, h3⟩ := (mem_likeC hw).mp h
  exact (mem_likeC hw).mpr ⟨ha, by rw [nxt_symm]; exact h2, h3.symm⟩
theorem rb_on {bd : List Str} {W w : Nat} (hw : Ways w) {a b : Cell} (ha : On bd.length W a) : ∀ {j : Nat}, Rb (likeC bd W w) a j b → On bd.length W b
  | 0, h => by rw [show b = a from h]; exact ha
  | j + 1, .inl h => rb_on hw ha h
  | j + 1, .inr ⟨y, _, hy⟩ => ((mem_likeC hw).mp hy).1
theorem rb_front {bd : List Str} {W w : Nat} {a c b : Cell} (h : c ∈ likeC bd W w a) : ∀ {j : Nat}, Rb (likeC bd W w) c j b → Rb (likeC bd W w) a (j + 1) b
  | 0, q => .inr ⟨a, rfl, by rw [show b = c from q]; exact h⟩
  | j + 1, .inl q => .inl (rb_front h q)
  | j + 1, .inr ⟨y, q, hy⟩ => .inr ⟨y, rb_front h q, hy⟩
theorem rb_symm {bd : List Str} {W w : Nat} (hw : Ways w) {a b : Cell} (ha : On bd.length W a) : ∀ {j : Nat}, Rb (likeC bd W w) a j b → Rb (likeC bd W w) b j a
  | 0, h => show a = b from (show b = a from h).symm
  | j + 1, .inl h => .inl (rb_symm hw ha h)
  | j + 1, .inr ⟨y, q, hy⟩ => rb_front (likeC_symm hw (rb_on hw ha q) hy) (rb_symm hw ha q)
section
variable {bd : List Str} {W w : Nat} {a b c : Cell}
theorem Cn.on (hw : Ways w) (ha : On bd.length W a) (h : Cn bd W w a b) : On bd.length W b := let ⟨_, q⟩ := h; rb_on hw ha q
theorem Cn.symm (hw : Ways w) (ha : On bd.length W a) (h : Cn bd W w a b) : Cn bd W w b a := let ⟨j, q⟩ := h; ⟨j, rb_symm hw ha q⟩
theorem Cn.step (h : Cn bd W w a b) (h2 : c ∈ likeC bd W w b) : Cn bd W w a c := let ⟨j, q⟩ := h; ⟨j + 1, .inr ⟨b, q, h2⟩⟩
end
structure IsPatch (bd : List Str) (W w : Nat) (a : Cell) (P : List Cell) : Prop where
  rise : RiseC P
  mem : ∀ x, x ∈ P ↔ Cn bd W w a x
theorem back_le {bd : List Str} {W : Nat} {ks : List Cell} (hn : ks.Nodup) (hon : ∀ x ∈ ks, On bd.length W x) : ks.length ≤ bd.length * W := by
  rw [← len_cellsN bd.length W]
  exact nodup_le hn fun x hx => mem_cellsN.mpr (hon x hx)
theorem srt_back {bd : List Str} {W w : Nat} (hg : Brd bd W) (hs : bd.length * W < 64) (hw : Ways w) (ha : On bd.length W a) : ∃ P, IsPatch bd W w a P ∧ (f_steps_back [brd bd, cD a, .int (w : Int)] >>= fun d => srtDM [d]) = M.ret (cL P) := by
  obtain ⟨k, ks, ps, h1, h2, h3⟩ := steps_back_val hg hw ha
  refine ⟨sortC ks, ⟨sortC_rise h1.nd, fun x => mem_sortC.trans (h1.last x)⟩, ?_⟩
  rw [h3, bind_ret]
  exact srtD_val h1.nd (Nat.lt_of_le_of_lt (back_le h1.nd h2) hs)
theorem patch_of_val {bd : List Str} {W w : Nat} (hg : Brd bd W) (hs : bd.length * W < 64) (hw : Ways w) {a : Cell} (ha : On bd.length W a) : ∃ P, IsPatch bd W w a P ∧ f_patch_of [brd bd, cD a, .int (w : Int)] = M.ret (cL P) := by
  obtain ⟨P, h1, h2⟩ := srt_back hg hs hw ha
  refine ⟨P, h1, runD_rt (sSeq_nx (sExp_val ((callF_val (ds := [brd bd]) rfl rfl).trans hg.nb)) (sSeq_nx (sExp_val ((callF_val (ds := [brd bd, cD a]) rfl rfl).trans (hg.nc ha))) (sSeq_nx (sExp_val ((callF_val (ds := [.int (w : Int)]) rfl rfl).trans hw.nw)) (sRet_val ?_))))⟩
  have e : (dA srtDM (aC (callF 3 f_steps_back (aC (dV 0) (aC (dV 1) (aC (dV 2) aN)))) aN)) [fz (brd bd), fz (cD a), fz (.int (w : Int))] = (f_steps_back [brd bd, cD a, .int (w : Int)] >>= fun d => srtDM [d]) := by
    show ((f_steps_back [brd bd, cD a, .int (w : Int)] >>= fun x => M.ret [x]) >>= srtDM) = _
    match f_steps_back [brd bd, cD a, .int (w : Int)] with
    | none => rfl
    | some (.ok a) => rfl
    | some (.ex n) => rfl
  exact e.trans h2
theorem two_cells {bd : List Str} {W w : Nat} (hg : Brd bd W) (hw : Ways w) {a b : Cell} (ha : On bd.length W a) (hb : On bd.length W b) : f_need_two_cells [brd bd, .int (w : Int), cD a, cD b] = M.ret .non :=
  runD_nx (ρ := [fz (brd bd), fz (.int (w : Int)), fz (cD a), fz (cD b)]) (sSeq_nx (sExp_val ((callF_val (ds := [brd bd]) rfl rfl).trans hg.nb)) (sSeq_nx (sExp_val ((callF_val (ds := [.int (w : Int)]) rfl rfl).trans hw.nw)) (sSeq_nx (sExp_val ((callF_val (ds := [brd bd, cD a]) rfl rfl).trans (hg.nc ha))) (sExp_val ((callF_val (ds := [brd bd, cD b]) rfl rfl).trans (hg.nc hb))))))
theorem are_one_val {bd : List Str} {W w : Nat} (hg : Brd bd W) (hw : Ways w) {a b : Cell} (ha : On bd.length W a) (hb : On bd.length W b) : ∃ r : Bool, (r = true ↔ Cn bd W w a b) ∧ f_are_one [brd bd, .int (w : Int), cD a, cD b] = M.ret (.bl r) := by
  obtain ⟨k, ks, ps, h1, h2, h3⟩ := steps_back_val hg hw ha
  refine ⟨decide (b ∈ ks), by rw [decide_eq_true_eq]; exact h1.last b, runD_rt (sSeq_nx (sExp_val ((callF_val (ds := [brd bd, .int (w : Int), cD a, cD b]) rfl rfl).trans (two_cells hg hw ha hb))) (sRet_val ?_))⟩
  exact (d2_val (x := cD b) (y := backD ks ps) rfl ((callF_val (ds := [brd bd, cD a, .int (w : Int)]) rfl rfl).trans h3)).trans (inD_val (neg := false) (by rw [List.length_map]; exact h1.len))
end K1


set_option Elab.async false
set_option linter.all false
set_option maxRecDepth 100000
namespace K1
open PySem L2 L3
def adjB (w : Nat) : List Cell → Bool
  | a :: b :: r => nxt w a b && adjB w (b :: r)
  | _ => true
structure IsWay (bd : List Str) (W w : Nat) (a b : Cell) (p : List Cell) : Prop where
  on : ∀ x ∈ p, On bd.length W x
  hd : p.head? = some a
  lst : p.getLast? = some b
  let' : ∀ x ∈ p, lt bd x = lt bd a
  adj : adjB w p = true
def wayB (bd : List Str) (w : Nat) (a b : Cell) (p : List Cell) : Bool := (decide (p.head? = some a) && decide (p.getLast? = some b)) && (p.all (fun x => decide (lt bd x = lt bd a)) && adjB w p)
theorem wayB_iff {bd : List Str} {W w : Nat} {a b : Cell} {p : List Cell} (hon : ∀ x ∈ p, On bd.length W x) : wayB bd w a b p = true ↔ IsWay bd W w a b p := by
  unfold wayB
  simp only [Bool.and_eq_true, decide_eq_true_eq, List.all_eq_true]
  exact ⟨fun ⟨⟨h1, h2⟩, h3, h4⟩ => ⟨hon, h1, h2, h3, h4⟩, fun h => ⟨⟨h.hd, h.lst⟩, h.let', h.adj⟩⟩
theorem atI_last {α : Type} {l : List α} {x : α} : L2.atI (l ++ [x]) (-1) = some x := by
  unfold L2.atI ixN
  rw [if_neg (by decide)]
  have : -((l ++ [x]).length : Int) ≤ -1 := by simp; omega
  rw [if_pos this]
  have e : ((-1 : Int) + ((l ++ [x]).length : Int)).toNat = l.length := by simp; omega
  show (l ++ [x])[((-1 : Int) + ((l ++ [x]).length : Int)).toNat]? = some x
  rw [e]
  simp
theorem ixL_last {l : List Cell} {x : Cell} : gIxL (cL (l ++ [x])) (.int (-1)) = M.ret (cD x) := by
  show (match L2.atI ((l ++ [x]).map cD) (-1) with | some d => M.ret d | none => M.stuck) = _
  rw [List.map_append, show [x].map cD = [cD x] from rfl, atI_last]
theorem ixL_at {l : List Cell} {i : Nat} {x : Cell} (h : l[i]? = some x) : gIxL (cL l) (.int (i : Int)) = M.ret (cD x) := by
  show (match L2.atI (l.map cD) (i : Int) with | some d => M.ret d | none => M.stuck) = _
  rw [atI_nat' (x := cD x) (by rw [List.getElem?_map, h]; rfl)]
structure Trail (nb : Cell → List Cell) (b : Cell) (p : List Cell) (x : Cell) : Prop where
  hd : p.head? = some x
  lst : p.getLast? = some b
  ch : ∀ l r u v, p = l ++ u :: v :: r → u ∈ nb v
theorem trail_loop {bd : List Str} {W : Nat} {w : D} {nb : Cell → List Cell} {a b : Cell} {k0 : Nat} {ks : List Cell} {ps : List (Option Cell)} (h : Rng nb b k0 ks ps []) : ∀ (j fuel : Nat) (x : Cell) (acc : List Cell), Rb nb b j x → j < fuel → acc.length + j + 1 < lim →
    ∃ p, Trail nb b p x ∧ p.length ≤ j + 1 ∧ whileL (tTf (tB' (d2 gNe (d2 gIxL (dV 5) (d1 negM (dC (.int 1)))) (dV 3)))) (sApp 5 (dTf (d2 gIxD (dV 4) (d2 gIxL (dV 5) (d1 negM (dC (.int 1))))))) fuel [fz (brd bd), fz w, fz (cD a), fz (cD b), fz (backD ks ps), some (.ow (.lst ((acc ++ [x]).map cD)))] =
      M.ret (.nx [fz (brd bd), fz w, fz (cD a), fz (cD b), fz (backD ks ps), some (.ow (.lst ((acc ++ p).map cD)))]) := by
  intro j
  induction j with
  | zero =>
    intro fuel x acc hx hf hl
    obtain ⟨f, rfl⟩ : ∃ f, fuel = f + 1 := ⟨fuel - 1, by omega⟩
    have hx : x = b := hx
    subst hx
    refine ⟨[x], ⟨rfl, rfl, fun l r u v e => ?_⟩, by simp, whileL_F (tTf_b (tB_b ((d2_val (x := cD x) (y := cD x) ((d2_val (x := cL (acc ++ [x])) (y := .int (-1)) rfl rfl).trans ixL_last) rfl).trans ((ne_cD x x).trans (by simp)))))⟩
    have := congrArg List.length e
    simp at this
    omega
  | succ j ih =>
    intro fuel x acc hx hf hl
    obtain ⟨f, rfl⟩ : ∃ f, fuel = f + 1 := ⟨fuel - 1, by omega⟩
    by_cases hxb : x = b
    · subst hxb
      obtain ⟨p, h1, h2, h3⟩ := ih (f + 1) x acc (Rb.mono (Nat.zero_le _) rfl) (by omega) (by omega)
      exact ⟨p, h1, by omega, h3⟩
    · have hk : x ∈ ks := (h.last x).mpr ⟨_, hx⟩
      obtain ⟨d, e1, e2⟩ := valD_some (ds := ps.map parD) (by rw [List.length_map]; exact h.len) hk
      obtain ⟨o, ho, rfl⟩ : ∃ o, (x, o) ∈ ks.zip ps ∧ d = parD o := by
        rw [List.zip_map_right] at e2
        obtain ⟨⟨y, o⟩, hy, e⟩ := List.mem_map.mp e2
        cases e
        exact ⟨o, hy, rfl⟩
      cases o with
      | none => exact absurd (h.non x ho) hxb
      | some q =>
        obtain ⟨q1, q2, q3⟩ := h.par x q ho
        obtain ⟨i, hi, hq⟩ := q3 _ hx
        have hi : j = i := by omega
        subst hi
        obtain ⟨p, h1, h2, h3⟩ := ih f q (acc ++ [x]) hq (by omega) (by simp; omega)
        refine ⟨x :: p, ⟨rfl, ?_, fun l r u v e => ?_⟩, by simp; omega, whileL_T (ρ' := [fz (brd bd), fz w, fz (cD a), fz (cD b), fz (backD ks ps), some (.ow (.lst ((acc ++ [x] ++ [q]).map cD)))]) (tTf_b (tB_b ((d2_val (x := cD x) (y := cD b) ((d2_val (x := cL (acc ++ [x])) (y := .int (-1)) rfl rfl).trans ixL_last) rfl).trans ((ne_cD x b).trans (by rw [decide_eq_false hxb]; rfl))))) ?_ (by rw [h3]; simp)⟩
        · have := h1.lst
          rw [List.getLast?_cons]
          rw [this]; rfl
        · cases l with
          | nil =>
            injection e with e1 e2
            subst e1
            have := h1.hd
            rw [e2] at this
            cases this
            exact q1
          | cons y l =>
            injection e with _ e2
            exact h1.ch l r u v e2
        · have ev : dTf (d2 gIxD (dV 4) (d2 gIxL (dV 5) (d1 negM (dC (.int 1))))) [fz (brd bd), fz w, fz (cD a), fz (cD b), fz (backD ks ps), some (.ow (.lst ((acc ++ [x]).map cD)))] = M.ret (cD q) := by
            refine dTf_b ((d2_val (x := backD ks ps) (y := cD x) rfl ((d2_val (x := cL (acc ++ [x])) (y := .int (-1)) rfl rfl).trans ixL_last)).trans ?_) (flat_cD q)
            show (match (keyT (cD x)).map (valD (ks.map keyOf) (ps.map parD)) with | some (some v) => M.ret v | _ => M.stuck) = _
            rw [keyT_cD]
            show (match some (valD (ks.map keyOf) (ps.map parD) (keyOf x)) with | some (some v) => M.ret v | _ => M.stuck) = _
            rw [e1]
            rfl
          show (dTf (d2 gIxD (dV 4) (d2 gIxL (dV 5) (d1 negM (dC (.int 1))))) [fz (brd bd), fz w, fz (cD a), fz (cD b), fz (backD ks ps), some (.ow (.lst ((acc ++ [x]).map cD)))] >>= fun d => if ((acc ++ [x]).map cD).length < lim then M.ret (Out.nx [fz (brd bd), fz w, fz (cD a), fz (cD b), fz (backD ks ps), some (.ow (.lst ((acc ++ [x]).map cD ++ [d])))]) else M.stuck) = _
          rw [ev, bind_ret, if_pos (by rw [List.length_map]; simp; omega)]
          rw [show (acc ++ [x]).map cD ++ [cD q] = (acc ++ [x] ++ [q]).map cD by simp]
theorem trail_way {bd : List Str} {W w : Nat} (hw : Ways w) {b : Cell} (hb : On bd.length W b) : ∀ {p : List Cell} {x : Cell}, Trail (likeC bd W w) b p x → IsWay bd W w x b p
  | [], x, h => by have := h.hd; cases this
  | [y], x, h => by
    have h1 : y = x := Option.some.inj h.hd
    have h2 : y = b := Option.some.inj h.lst
    subst h1
    subst h2
    exact ⟨fun z hz => (show z = y by simpa using hz) ▸ hb, rfl, rfl, fun z hz => by rw [show z = y by simpa using hz], rfl⟩
  | y :: z :: r, x, h => by
    have h1 : y = x := Option.some.inj h.hd
    subst h1
    have hz : Trail (likeC bd W w) b (z :: r) z := ⟨rfl, by have := h.lst; rw [List.getLast?_cons_cons] at this; exact this, fun l r' u v e => h.ch (y :: l) r' u v (by rw [e]; rfl)⟩
    have ih := trail_way hw hb hz
    have hx := h.ch [] r y z rfl
    obtain ⟨x1, x2, x3⟩ := (mem_likeC hw).mp hx
    refine ⟨fun u hu => ?_, rfl, h.lst, fun u hu => ?_, ?_⟩
    · rcases List.mem_cons.mp hu with q | q
      · rw [q]; exact x1
      · exact ih.on u q
    · rcases List.mem_cons.mp hu with q | q
      · rw [q]
      · exact (ih.let' u q).trans x3.symm
    · unfold adjB
      rw [nxt_symm, x2, ih.adj]
      rfl
theorem way_rb {bd : List Str} {W w : Nat} (hw : Ways w) {a b : Cell} : ∀ {p : List Cell}, IsWay bd W w a b p → Rb (likeC bd W w) b (p.length - 1) a
  | [], h => by have := h.hd; cases this
  | [y], h => by
    have h1 : y = a := Option.some.inj h.hd
    have h2 : y = b := Option.some.inj h.lst
    exact h1.symm.trans h2
  | y :: z :: r, h => by
    have h1 : y = a := Option.some.inj h.hd
    subst h1
    have ha := h.adj
    unfold adjB at ha
    rw [Bool.and_eq_true] at ha
    have hz : IsWay bd W w z b (z :: r) := ⟨fun u hu => h.on u (List.mem_cons_of_mem _ hu), rfl, by have := h.lst; rw [List.getLast?_cons_cons] at this; exact this,
      fun u hu => (h.let' u (List.mem_cons_of_mem _ hu)).trans (h.let' z (by simp)).symm, ha.2⟩
    have ih := way_rb hw hz
    refine .inr ⟨z, ih, (mem_likeC hw).mpr ⟨h.on _ (List.mem_cons_self ..), by rw [nxt_symm]; exact ha.1, (h.let' z (by simp)).symm⟩⟩
theorem way_val {bd : List Str} {W w : Nat} (hg : Brd bd W) (hw : Ways w) {a b : Cell} (ha : On bd.length W a) (hb : On bd.length W b) :
    (∃ p, IsWay bd W w a b p ∧ (∀ q, IsWay bd W w a b q → p.length ≤ q.length) ∧ p.length ≤ 64 ∧ f_way [brd bd, .int (w : Int), cD a, cD b] = M.ret (cL p)) ∨
    (¬ Cn bd W w a b ∧ f_way [brd bd, .int (w : Int), cD a, cD b] = M.ret .non) := by
  have hm : bd.length * W ≤ 64 := Nat.mul_le_mul hg.r8 hg.w8
  obtain ⟨k, ks, ps, h1, h2, h3⟩ := steps_back_val hg hw hb
  have hkl := back_le h1.nd h2
  have st : ∀ {o : M Out}, sSeq (sIf (tB' (d2 (gInD true) (dV 2) (dV 4))) (sRet (dC .non)) sNil) (sSeq (sNewF 5 (fun ρ => (aC (dV 2) aN) ρ >>= mkC)) (sSeq (fun ρ => noex ((sWhile (tTf (tB' (d2 gNe (d2 gIxL (dV 5) (d1 negM (dC (.int 1)))) (dV 3)))) (sApp 5 (dTf (d2 gIxD (dV 4) (d2 gIxL (dV 5) (d1 negM (dC (.int 1)))))))) ρ)) (sFz 5 (sRet (dV 5))))) [fz (brd bd), fz (.int (w : Int)), fz (cD a), fz (cD b), fz (backD ks ps), none] = o →
      τ_way [fz (brd bd), fz (.int (w : Int)), fz (cD a), fz (cD b), none, none] = o := fun {o} h =>
    sSeq_nx (sExp_val ((callF_val (ds := [brd bd, .int (w : Int), cD a, cD b]) rfl rfl).trans (two_cells hg hw ha hb))) (sSeq_nx (ρ' := [fz (brd bd), fz (.int (w : Int)), fz (cD a), fz (cD b), fz (backD ks ps), none]) ((sSet_val (d := backD ks ps) ((callF_val (ds := [brd bd, cD b, .int (w : Int)]) rfl rfl).trans h3)).trans rfl) h)
  have ht : tB' (d2 (gInD true) (dV 2) (dV 4)) [fz (brd bd), fz (.int (w : Int)), fz (cD a), fz (cD b), fz (backD ks ps), none] = M.ret (!decide (a ∈ ks)) := tB_b ((d2_val (x := cD a) (y := backD ks ps) rfl rfl).trans (inD_val (neg := true) (by rw [List.length_map]; exact h1.len)))
  by_cases hak : a ∈ ks
  · rw [decide_eq_true hak] at ht
    -- the least number of steps
    have hex := (h1.last a).mp hak
    have hleast : ∃ j, Rb (likeC bd W w) b j a ∧ j ≤ k ∧ ∀ i, Rb (likeC bd W w) b i a → j ≤ i := by
      have hka := (h1.mem a).mp hak
      have : ∀ n, (∃ j, j ≤ n ∧ Rb (likeC bd W w) b j a) → ∃ j, Rb (likeC bd W w) b j a ∧ j ≤ n ∧ ∀ i, Rb (likeC bd W w) b i a → j ≤ i := by
        intro n
        induction n with
        | zero => rintro ⟨j, hj, hr⟩; exact ⟨j, hr, hj, fun i _ => by omega⟩
        | succ n ih =>
          rintro ⟨j, hj, hr⟩
          by_cases hn : ∃ j, j ≤ n ∧ Rb (likeC bd W w) b j a
          · obtain ⟨i, i1, i2, i3⟩ := ih hn
            exact ⟨i, i1, by omega, i3⟩
          · refine ⟨j, hr, hj, fun i hi => ?_⟩
            by_cases hin : i ≤ n
            · exact absurd ⟨i, hin, hi⟩ hn
            · omega
      exact this k ⟨k, Nat.le_refl _, hka⟩
    obtain ⟨j, hj, hjk, hmin⟩ := hleast
    have hk64 : k ≤ 64 := Nat.le_trans h1.sz.1 (Nat.le_trans hkl hm)
    obtain ⟨p, p1, p2, p3⟩ := trail_loop (bd := bd) (W := W) (w := .int (w : Int)) (a := a) h1 j lim a [] hj (by rw [limv]; omega) (by rw [limv]; simp; omega)
    have hp := trail_way hw hb p1
    have hjp : ∀ q, IsWay bd W w a b q → j + 1 ≤ q.length := fun q hq => by
      have := hmin _ (way_rb hw hq)
      have : q ≠ [] := fun z => by have := hq.hd; rw [z] at this; cases this
      have := List.length_pos_iff.mpr this
      omega
    refine .inl ⟨p, hp, fun q hq => by have := hjp q hq; omega, ?_, runD_rt (st (sSeq_nx (sIf_F ht rfl) (sSeq_nx (ρ' := [fz (brd bd), fz (.int (w : Int)), fz (cD a), fz (cD b), fz (backD ks ps), some (.ow (.lst [cD a]))]) rfl (sSeq_nx (ρ' := [fz (brd bd), fz (.int (w : Int)), fz (cD a), fz (cD b), fz (backD ks ps), some (.ow (.lst (p.map cD)))]) (noex_nx p3) rfl))))⟩
    -- a least way has no cell twice: it is no longer than the rings are many
    by_cases hk0 : k = 0
    · omega
    · have : j + 1 ≤ k := by
        by_cases hjk' : j = k
        · subst hjk'
          have := (h1.rg a).mpr ⟨hj, hmin⟩
          cases this
        · omega
      omega
  · rw [decide_eq_false hak] at ht
    refine .inr ⟨fun hc => hak ((h1.last a).mpr (hc.symm hw ha)), runD_rt (st (sSeq_rt (sIf_T ht (sRet_val rfl))))⟩
end K1


set_option Elab.async false
set_option linter.all false
set_option maxRecDepth 100000
namespace K1
open PySem L2 L3
theorem compL_mapN {α : Type} {f : D → M (Option D)} (enc : α → D) (g : α → D) : ∀ (xs : List α), (∀ x ∈ xs, f (enc x) = M.ret (some (g x))) → compL f (xs.map enc) = M.ret (xs.map g)
  | [], _ => rfl
  | x :: xs, h => by
    rw [List.map_cons, compL_cons, h x (List.mem_cons_self ..), bind_ret, compL_mapN enc g xs fun y hy => h y (List.mem_cons_of_mem _ hy)]
    rfl
theorem all_comp {α : Type} {δi : DA} {δe : DE} {ρ : Rho} {enc : α → D} {xs : List α} {g : α → Bool} (h : δi ρ = M.ret (xs.map enc)) (h2 : ∀ x ∈ xs, δe (fz (enc x) :: ρ) = M.ret (.bl (g x))) (h3 : xs.length ≤ 4096) : dA allM (aC (dComp 0 δi dTrue δe) aN) ρ = M.ret (.bl (xs.all g)) := by
  have cm : dComp 0 δi dTrue δe ρ = M.ret (.lst ((xs.map g).map D.bl)) := by
    refine dComp_val h ?_ (by rw [List.length_map, List.length_map, limv]; exact h3)
    rw [List.map_map]
    exact compL_mapN enc _ xs fun x hx => by rw [compF0, h2 x hx]; rfl
  rw [dA_val (aC_val cm rfl), all_map, List.all_map]
  rfl
theorem itL {ρ : Rho} {i : Nat} {ds : List D} (h : ρ[i]? = some (fz (.lst ds))) : dItL (dV i) ρ = M.ret ds := by
  unfold dItL
  rw [dV_val h]
  rfl
theorem list_cells_val {bd : List Str} {W : Nat} (hg : Brd bd W) {p : List Cell} (hp : ∀ x ∈ p, On bd.length W x) (hl : p.length ≤ 4096) : f_is_list_of_cells [brd bd, cL p] = M.ret (.bl true) := by
  refine runD_rt (sRet_val ((dAndV_b (p := true) (q := true) rfl ?_).trans rfl))
  refine (all_comp (enc := cD) (xs := p) (g := fun _ => true) (itL rfl) (fun x hx => ?_) hl).trans (by rw [show p.all (fun _ => true) = true from List.all_eq_true.mpr fun _ _ => rfl])
  exact (callF_val (ds := [brd bd, cD x]) rfl rfl).trans (by rw [is_cell_val hg cD_plain, cell_on (hp x hx)])
theorem adj_range {w : Nat} : ∀ (p : List Cell) (c : Cell), (List.range' 1 (p.length - 1)).all (fun i => nxt w (p.getD (i - 1) c) (p.getD i c)) = adjB w p
  | [], _ => rfl
  | [_], _ => rfl
  | a :: b :: r, c => by
    have ih := adj_range (w := w) (b :: r) c
    unfold adjB
    rw [← ih]
    show (List.range' 1 (r.length + 1)).all _ = (_ && (List.range' 1 r.length).all _)
    rw [List.range'_succ, List.all_cons]
    congr 1
    rw [show List.range' (1 + 1) r.length = (List.range' 1 r.length).map (1 + ·) from (List.map_add_range' (a := 1) 1 r.length 1).symm, List.all_map]
    refine Bool.eq_iff_iff.mpr ?_
    simp only [List.all_eq_true, List.mem_range'_1, Function.comp]
    constructor
    · intro h i hi
      have := h i hi
      rw [show 1 + i - 1 = (i - 1) + 1 by omega, Nat.add_comm 1 i] at this
      exact this
    · intro h i hi
      have := h i hi
      rw [show 1 + i - 1 = (i - 1) + 1 by omega, Nat.add_comm 1 i]
      exact this
theorem head_get {p : List Cell} {x : Cell} {r : List Cell} (h : p = x :: r) : gIxL (cL p) (.int 0) = M.ret (cD x) := by
  subst h
  exact ixL_at (i := 0) rfl
theorem is_way_val {bd : List Str} {W w : Nat} (hg : Brd bd W) (hw : Ways w) {a b : Cell} (ha : On bd.length W a) (hb : On bd.length W b) {p : List Cell} (hp : ∀ x ∈ p, On bd.length W x) (hl : p.length ≤ 4096) :
    f_is_way [brd bd, .int (w : Int), cD a, cD b, cL p] = M.ret (.bl (wayB bd w a b p)) := by
  have hlen : dA lenM (aC (dV 4) aN) [fz (brd bd), fz (.int (w : Int)), fz (cD a), fz (cD b), fz (cL p), none] = M.ret (.int (p.length : Int)) := by
    show M.ret (D.int ((p.map cD).length : Int)) = _
    rw [List.length_map]
  have t1 : dOr (dNot (dTru (callF 2 f_is_list_of_cells (aC (dV 0) (aC (dV 4) aN))))) (tB' (d2 gEq (dA lenM (aC (dV 4) aN)) (dC (.int 0)))) [fz (brd bd), fz (.int (w : Int)), fz (cD a), fz (cD b), fz (cL p), none] = M.ret (p.length == 0) := by
    refine (dOr_b (dNot_b (dTru_b ((callF_val (ds := [brd bd, cL p]) rfl rfl).trans (list_cells_val hg hp hl)))) (tB_b ((d2_val (y := .int 0) hlen rfl).trans ((eq_int _ _).trans (by rw [show ((p.length : Int) == 0) = (p.length == 0) from natEq p.length 0]))))).trans rfl
  refine runD_rt (sSeq_nx (sExp_val ((callF_val (ds := [brd bd, .int (w : Int), cD a, cD b]) rfl rfl).trans (two_cells hg hw ha hb))) ?_)
  cases p with
  | nil => exact sSeq_rt (sIf_T t1 (sRet_val rfl))
  | cons x r =>
    refine sSeq_nx (sIf_F t1 rfl) ?_
    obtain ⟨l, y, e⟩ : ∃ l y, x :: r = l ++ [y] := ⟨(x :: r).dropLast, (x :: r).getLast (by simp), (List.dropLast_concat_getLast (by simp)).symm⟩
    have hy : (x :: r).getLast? = some y := by rw [e]; simp
    have hh : (x :: r).head? = some x := rfl
    have t2 : dOr (tB' (d2 gNe (d2 gIxL (dV 4) (dC (.int 0))) (dV 2))) (tB' (d2 gNe (d2 gIxL (dV 4) (d1 negM (dC (.int 1)))) (dV 3))) [fz (brd bd), fz (.int (w : Int)), fz (cD a), fz (cD b), fz (cL (x :: r)), none] = M.ret ((!decide (x = a)) || (!decide (y = b))) := by
      refine dOr_b (tB_b ((d2_val (x := cD x) (y := cD a) ((d2_val (x := cL (x :: r)) (y := .int 0) rfl rfl).trans (head_get rfl)) rfl).trans (ne_cD _ _))) (tB_b ((d2_val (x := cD y) (y := cD b) ((d2_val (x := cL (x :: r)) (y := .int (-1)) rfl rfl).trans ?_) rfl).trans (ne_cD _ _)))
      rw [e]
      exact ixL_last
    have hwb : wayB bd w a b (x :: r) = ((decide (x = a) && decide (y = b)) && ((x :: r).all (fun z => decide (lt bd z = lt bd a)) && adjB w (x :: r))) := by
      unfold wayB
      rw [hh, hy]
      simp only [Option.some.injEq]
    rw [hwb]
    by_cases hc : x = a ∧ y = b
    · rw [decide_eq_true hc.1, decide_eq_true hc.2] at t2 ⊢
      refine sSeq_nx (sIf_F t2 rfl) (sSeq_nx (ρ' := [fz (brd bd), fz (.int (w : Int)), fz (cD a), fz (cD b), fz (cL (x :: r)), fz (sg (lt bd a))]) ((sSet_val (d := sg (lt bd a)) ((callF_val (ds := [brd bd, cD a]) rfl rfl).trans (letter_of_val hg ha))).trans rfl) ?_)
      have t3 : dNot (dTru (dA allM (aC (dComp 0 (dItL (dV 4)) dTrue (d2 gEq (callF 2 f_letter_of (aC (dV 1) (aC (dV 0) aN))) (dV 6))) aN))) [fz (brd bd), fz (.int (w : Int)), fz (cD a), fz (cD b), fz (cL (x :: r)), fz (sg (lt bd a))] = M.ret (!(x :: r).all fun z => decide (lt bd z = lt bd a)) :=
        dNot_b (dTru_b (all_comp (enc := cD) (itL rfl) (fun z hz => (d2_val (x := sg (lt bd z)) (y := sg (lt bd a)) ((callF_val (ds := [brd bd, cD z]) rfl rfl).trans (letter_of_val hg (hp z hz))) rfl).trans (eq_sg _ _)) hl))
      have hlen' : dA lenM (aC (dV 4) aN) [fz (brd bd), fz (.int (w : Int)), fz (cD a), fz (cD b), fz (cL (x :: r)), fz (sg (lt bd a))] = M.ret (.int ((x :: r).length : Int)) := hlen
      cases hq : (x :: r).all (fun z => decide (lt bd z = lt bd a)) with
      | false =>
        rw [hq] at t3
        exact sSeq_rt (sIf_T t3 (sRet_val rfl))
      | true =>
        rw [hq] at t3
        refine sSeq_nx (sIf_F t3 rfl) (sRet_val ?_)
        rw [Bool.true_and, Bool.true_and, Bool.true_and, ← adj_range (x :: r) x]
        refine all_comp (enc := fun (k : Nat) => D.int (k : Int)) (rng2 (i := 1) (j := (x :: r).length) rfl hlen' (by decide) hl) (fun i hi => ?_) (by rw [List.length_range']; omega)
        rw [List.mem_range'_1] at hi
        have g : ∀ k : Nat, k < (x :: r).length → gIxL (cL (x :: r)) (.int (k : Int)) = M.ret (cD ((x :: r).getD k x)) := fun k hk => ixL_at (by rw [List.getD_eq_getElem?_getD, List.getElem?_eq_getElem hk]; rfl)
        have e1 : d2 gIxL (dV 5) (d2 gSub (dV 0) (dC (.int 1))) (fz (.int (i : Int)) :: [fz (brd bd), fz (.int (w : Int)), fz (cD a), fz (cD b), fz (cL (x :: r)), fz (sg (lt bd a))]) = M.ret (cD ((x :: r).getD (i - 1) x)) := by
          refine (d2_val (x := cL (x :: r)) (y := .int ((i - 1 : Nat) : Int)) rfl ?_).trans (g (i - 1) (by omega))
          show M.ret (D.int ((i : Int) - 1)) = _
          congr 2
          omega
        have e2 : d2 gIxL (dV 5) (dV 0) (fz (.int (i : Int)) :: [fz (brd bd), fz (.int (w : Int)), fz (cD a), fz (cD b), fz (cL (x :: r)), fz (sg (lt bd a))]) = M.ret (cD ((x :: r).getD i x)) := (d2_val (x := cL (x :: r)) (y := .int (i : Int)) rfl rfl).trans (g i (by omega))
        exact (callF_val (aC_val e1 (aC_val e2 (aC_val (x := .int (w : Int)) rfl rfl))) rfl).trans (are_next_val hw _ _)
    · have : ((!decide (x = a)) || (!decide (y = b))) = true := by
        by_cases h1 : x = a
        · by_cases h2 : y = b
          · exact absurd ⟨h1, h2⟩ hc
          · simp [h2]
        · simp [h1]
      rw [this] at t2
      have hz : (decide (x = a) && decide (y = b)) = false := by
        by_cases h1 : x = a
        · by_cases h2 : y = b
          · exact absurd ⟨h1, h2⟩ hc
          · simp [h2]
        · simp [h1]
      rw [hz]
      exact sSeq_rt (sIf_T t2 (sRet_val rfl))
def addK (ks : List Cell) (c : Cell) : List Cell := if c ∈ ks then ks else ks ++ [c]
def keysN (l : List Cell) : List Cell := l.foldl addK []
def trues (ks : List Cell) : List D := ks.map fun _ => .bl true
theorem addK_mem {ks : List Cell} {c x : Cell} : x ∈ addK ks c ↔ x ∈ ks ∨ x = c := by
  unfold addK
  split
  · rename_i h
    exact ⟨.inl, fun q => q.elim id fun e => by rw [e]; exact h⟩
  · simp
theorem foldK : ∀ (l ks : List Cell), (ks.Nodup → (l.foldl addK ks).Nodup) ∧ (∀ x, x ∈ l.foldl addK ks ↔ x ∈ ks ∨ x ∈ l) ∧ (l.foldl addK ks).length ≤ ks.length + l.length
  | [], ks => ⟨id, fun x => by simp, by simp⟩
  | c :: l, ks => by
    obtain ⟨h1, h2, h3⟩ := foldK l (addK ks c)
    refine ⟨fun hn => h1 ?_, fun x => ?_, ?_⟩
    · unfold addK
      split
      · exact hn
      · rename_i hc
        refine List.nodup_append.mpr ⟨hn, by simp, fun y hy z hz e => ?_⟩
        have hz : z = c := by simpa using hz
        rw [e, hz] at hy
        exact hc hy
    · rw [List.foldl_cons, h2 x, addK_mem]
      simp [or_assoc]
    · rw [List.foldl_cons, List.length_cons]
      have : (addK ks c).length ≤ ks.length + 1 := by unfold addK; split <;> simp
      omega
theorem mem_keysN {l : List Cell} {x : Cell} : x ∈ keysN l ↔ x ∈ l := by
  unfold keysN
  rw [(foldK l []).2.1 x]
  simp
theorem repD_true {k : List Key} : ∀ {ks : List (List Key)} {l : List Cell}, ks.length = l.length → repD ks (trues l) k (.bl true) = trues l
  | [], [], _ => rfl
  | k' :: ks, c :: l, h => by
    show (if k' = k then D.bl true else D.bl true) :: repD ks (trues l) k (.bl true) = _
    rw [repD_true (by simpa using h)]
    split <;> rfl
  | [], _ :: _, h => by simp at h
  | _ :: _, [], h => by simp at h
theorem putC_key {ks : List Cell} {c : Cell} (hl : ks.length < lim) : putC (.dct (ks.map keyOf) (trues ks)) (cD c) (.bl true) = some (.dct ((addK ks c).map keyOf) (trues (addK ks c))) := by
  have hlen : (trues ks).length = ks.length := by simp [trues]
  unfold addK
  by_cases h : c ∈ ks
  · rw [if_pos h]
    show (match keyT (cD c) with | some kk => if (trues ks).length < lim then some (C.dct (putKs (ks.map keyOf) (trues ks) kk) (putDs (ks.map keyOf) (trues ks) kk (.bl true))) else none | none => none) = _
    rw [keyT_cD]
    show (if (trues ks).length < lim then some (C.dct (putKs (ks.map keyOf) (trues ks) (keyOf c)) (putDs (ks.map keyOf) (trues ks) (keyOf c) (.bl true))) else none) = _
    rw [if_pos (by rw [hlen]; exact hl)]
    obtain ⟨d, e, _⟩ := valD_some (ds := trues ks) hlen.symm h
    unfold putKs putDs
    rw [e]
    show some (C.dct (ks.map keyOf) (repD (ks.map keyOf) (trues ks) (keyOf c) (.bl true))) = _
    rw [repD_true (by simp)]
  · rw [if_neg h, putC_new h (by rw [hlen]; exact hl)]
    simp [trues]
abbrev keyedD (l : List Cell) : D := .dct ((keysN l).map keyOf) (trues (keysN l))
theorem keyed_val {l : List Cell} (hl : l.length < 4000) : f_keyed [cL l] = M.ret (keyedD l) := by
  have e : ∀ (xs ks : List Cell), ks.length + xs.length < 4000 → forL (putN 2) (sFgt [2] (sPutO 1 (dV 2) (dC (.bl true)))) (xs.map cD) [fz (cL l), some (.ow (.dct (ks.map keyOf) (trues ks))), none] = M.ret (.nx [fz (cL l), some (.ow (.dct ((xs.foldl addK ks).map keyOf) (trues (xs.foldl addK ks)))), none]) := by
    intro xs
    induction xs with
    | nil => intro ks _; rfl
    | cons x xs ih =>
      intro ks hk
      rw [List.length_cons] at hk
      have hle : (addK ks x).length ≤ ks.length + 1 := by unfold addK; split <;> simp
      refine (forL_cons (ρ1 := [fz (cL l), some (.ow (.dct (ks.map keyOf) (trues ks))), fz (cD x)]) (ρ2 := [fz (cL l), some (.ow (.dct ((addK ks x).map keyOf) (trues (addK ks x)))), none]) rfl ?_).trans (ih (addK ks x) (by omega))
      refine (sFgt_nx (ρ' := [fz (cL l), some (.ow (.dct ((addK ks x).map keyOf) (trues (addK ks x)))), fz (cD x)]) ?_).trans rfl
      show (match putC (.dct (ks.map keyOf) (trues ks)) (cD x) (.bl true) with | some c' => M.ret (Out.nx [fz (cL l), some (.ow c'), fz (cD x)]) | none => M.stuck) = _
      rw [putC_key (by rw [limv]; omega)]
  refine runD_rt (sSeq_nx (ρ' := [fz (cL l), some (.ow (.dct [] [])), none]) rfl (sSeq_nx (ρ' := [fz (cL l), some (.ow (.dct ((keysN l).map keyOf) (trues (keysN l)))), none]) (noex_nx (sForL (ds := l.map cD) rfl (e l [] (by simpa using hl)))) rfl))
theorem keysI_val {ks : List Cell} {ds : List D} : keysI (.dct (ks.map keyOf) ds) = M.ret (ks.map cD) := by
  show (if (ks.map keyOf).all (fun k => decide (k.length ≤ lim) && k.all okKey) then M.ret ((ks.map keyOf).map tupK) else M.stuck) = _
  have : (ks.map keyOf).all (fun k => decide (k.length ≤ lim) && k.all okKey) = true := by
    simp only [List.all_eq_true, List.mem_map]
    rintro k ⟨c, _, rfl⟩
    rfl
  rw [if_pos this, List.map_map]
  rfl
def fenceB (bd : List Str) (W w : Nat) (a b : Cell) (l : List Cell) : Bool := (decide (a ∈ l) && !decide (b ∈ l)) && (keysN l).all fun c => (likeC bd W w c).all fun x => decide (x ∈ l)
theorem fenceB_iff {bd : List Str} {W w : Nat} {a b : Cell} {l : List Cell} : fenceB bd W w a b l = true ↔ a ∈ l ∧ b ∉ l ∧ ∀ c ∈ l, ∀ x ∈ likeC bd W w c, x ∈ l := by
  unfold fenceB
  simp only [Bool.and_eq_true, decide_eq_true_eq, Bool.not_eq_true', decide_eq_false_iff_not, List.all_eq_true, mem_keysN, and_assoc]
theorem is_fence_val {bd : List Str} {W w : Nat} (hg : Brd bd W) (hw : Ways w) {a b : Cell} (ha : On bd.length W a) (hb : On bd.length W b) {l : List Cell} (hp : ∀ x ∈ l, On bd.length W x) (hl : l.length < 4000) :
    f_is_fence [brd bd, .int (w : Int), cD a, cD b, cL l] = M.ret (.bl (fenceB bd W w a b l)) := by
  have hkl : (keysN l).length = (trues (keysN l)).length := by simp [trues]
  refine runD_rt (sSeq_nx (sExp_val ((callF_val (ds := [brd bd, .int (w : Int), cD a, cD b]) rfl rfl).trans (two_cells hg hw ha hb))) ?_)
  refine sSeq_nx (sIf_F (dNot_b (dTru_b ((callF_val (ds := [brd bd, cL l]) rfl rfl).trans (list_cells_val hg hp (by omega))))) rfl) ?_
  refine sSeq_nx (ρ' := [fz (brd bd), fz (.int (w : Int)), fz (cD a), fz (cD b), fz (cL l), fz (keyedD l), none]) ((sSet_val (d := keyedD l) ((callF_val (ds := [cL l]) rfl rfl).trans (keyed_val hl))).trans rfl) ?_
  have t1 : dOr (tB' (d2 (gInD true) (dV 2) (dV 5))) (tB' (d2 (gInD false) (dV 3) (dV 5))) [fz (brd bd), fz (.int (w : Int)), fz (cD a), fz (cD b), fz (cL l), fz (keyedD l), none] = M.ret ((!decide (a ∈ keysN l)) || decide (b ∈ keysN l)) :=
    dOr_b (tB_b ((d2_val (x := cD a) (y := keyedD l) rfl rfl).trans (inD_val (neg := true) hkl))) (tB_b ((d2_val (x := cD b) (y := keyedD l) rfl rfl).trans (inD_val (neg := false) hkl)))
  have hda : decide (a ∈ keysN l) = decide (a ∈ l) := by rw [decide_eq_decide]; exact mem_keysN
  have hdb : decide (b ∈ keysN l) = decide (b ∈ l) := by rw [decide_eq_decide]; exact mem_keysN
  rw [hda, hdb] at t1
  by_cases hc : a ∈ l ∧ b ∉ l
  · rw [decide_eq_true hc.1, decide_eq_false hc.2] at t1
    refine sSeq_nx (sIf_F t1 rfl) ?_
    have hfe : fenceB bd W w a b l = (keysN l).all fun c => (likeC bd W w c).all fun x => decide (x ∈ l) := by
      unfold fenceB
      rw [decide_eq_true hc.1, decide_eq_false hc.2]
      rfl
    rw [hfe]
    have loop : ∀ ks : List Cell, (∀ c ∈ ks, On bd.length W c) → forL (putN 6) (sFgt [6] (sIf (dNot (dTru (dA allM (aC (dComp 0 (dItL (callF 3 f_like_cells (aC (dV 0) (aC (dV 6) (aC (dV 1) aN))))) dTrue (d2 (gInD false) (dV 0) (dV 6))) aN)))) (sRet (dC (.bl false))) sNil)) (ks.map cD) [fz (brd bd), fz (.int (w : Int)), fz (cD a), fz (cD b), fz (cL l), fz (keyedD l), none] =
        M.ret (if ks.all (fun c => (likeC bd W w c).all fun x => decide (x ∈ l)) then .nx [fz (brd bd), fz (.int (w : Int)), fz (cD a), fz (cD b), fz (cL l), fz (keyedD l), none] else .rt (.bl false)) := by
      intro ks
      induction ks with
      | nil => intro _; rfl
      | cons c ks ih =>
        intro hks
        have t2 : dNot (dTru (dA allM (aC (dComp 0 (dItL (callF 3 f_like_cells (aC (dV 0) (aC (dV 6) (aC (dV 1) aN))))) dTrue (d2 (gInD false) (dV 0) (dV 6))) aN))) [fz (brd bd), fz (.int (w : Int)), fz (cD a), fz (cD b), fz (cL l), fz (keyedD l), fz (cD c)] = M.ret (!(likeC bd W w c).all fun x => decide (x ∈ l)) := by
          refine dNot_b (dTru_b (all_comp (enc := cD) (xs := likeC bd W w c) ?_ (fun x hx => ?_) (Nat.le_trans (len_likeC ..) (by decide))))
          · show (callF 3 f_like_cells (aC (dV 0) (aC (dV 6) (aC (dV 1) aN))) [fz (brd bd), fz (.int (w : Int)), fz (cD a), fz (cD b), fz (cL l), fz (keyedD l), fz (cD c)] >>= lstM) = _
            have e2 : callF 3 f_like_cells (aC (dV 0) (aC (dV 6) (aC (dV 1) aN))) [fz (brd bd), fz (.int (w : Int)), fz (cD a), fz (cD b), fz (cL l), fz (keyedD l), fz (cD c)] = M.ret (.lst ((likeC bd W w c).map cD)) := like_cells_val hg hw (hks c (List.mem_cons_self ..))
            rw [e2]
            rfl
          · refine (d2_val (x := cD x) (y := keyedD l) rfl rfl).trans ((inD_val (neg := false) hkl).trans ?_)
            congr 2
            show decide (x ∈ keysN l) = _
            rw [decide_eq_decide]
            exact mem_keysN
        cases hq : (likeC bd W w c).all (fun x => decide (x ∈ l)) with
        | true =>
          rw [hq] at t2
          rw [List.map_cons, forL_cons (ρ1 := [fz (brd bd), fz (.int (w : Int)), fz (cD a), fz (cD b), fz (cL l), fz (keyedD l), fz (cD c)]) (ρ2 := [fz (brd bd), fz (.int (w : Int)), fz (cD a), fz (cD b), fz (cL l), fz (keyedD l), none]) rfl ((sFgt_nx (sIf_F t2 rfl)).trans rfl), ih fun c hc => hks c (List.mem_cons_of_mem _ hc), List.all_cons, hq, Bool.true_and]
        | false =>
          rw [hq] at t2
          rw [List.map_cons, forL_rt (ρ1 := [fz (brd bd), fz (.int (w : Int)), fz (cD a), fz (cD b), fz (cL l), fz (keyedD l), fz (cD c)]) (v := .bl false) rfl (sFgt_rt (sIf_T t2 (sRet_val rfl))), List.all_cons, hq, Bool.false_and]
          rfl
    have lp := loop (keysN l) fun c hc => hp c (mem_keysN.mp hc)
    have lp2 : noex (sFor (putN 6) (fun ρ => (dV 5) ρ >>= keysI) (sFgt [6] (sIf (dNot (dTru (dA allM (aC (dComp 0 (dItL (callF 3 f_like_cells (aC (dV 0) (aC (dV 6) (aC (dV 1) aN))))) dTrue (d2 (gInD false) (dV 0) (dV 6))) aN)))) (sRet (dC (.bl false))) sNil)) [fz (brd bd), fz (.int (w : Int)), fz (cD a), fz (cD b), fz (cL l), fz (keyedD l), none]) = _ := noex_nx (τ := sFor _ _ _) (sForL (keysI_val (ks := keysN l) (ds := trues (keysN l))) lp)
    cases hq : (keysN l).all (fun c => (likeC bd W w c).all fun x => decide (x ∈ l)) with
    | true =>
      rw [hq] at lp2
      exact sSeq_nx lp2 (sRet_val rfl)
    | false =>
      rw [hq] at lp2
      exact sSeq_rt lp2
  · have h1 : ((!decide (a ∈ l)) || decide (b ∈ l)) = true := by
      by_cases q1 : a ∈ l
      · by_cases q2 : b ∈ l
        · simp [q2]
        · exact absurd ⟨q1, q2⟩ hc
      · simp [q1]
    rw [h1] at t1
    have hfe : fenceB bd W w a b l = false := by
      unfold fenceB
      have : (decide (a ∈ l) && !decide (b ∈ l)) = false := by
        by_cases q1 : a ∈ l
        · by_cases q2 : b ∈ l
          · simp [q2]
          · exact absurd ⟨q1, q2⟩ hc
        · simp [q1]
      rw [this]
      rfl
    rw [hfe]
    exact sSeq_rt (sIf_T t1 (sRet_val rfl))
end K1


set_option Elab.async false
set_option linter.all false
set_option maxRecDepth 100000
namespace K1
open PySem L2 L3
theorem adj_append {w : Nat} : ∀ {p q : List Cell} {x y : Cell}, p.getLast? = some x → q.head? = some y → adjB w (p ++ q) = (adjB w p && (nxt w x y && adjB w q))
  | [], _, _, _, h, _ => by cases h
  | [a], q, x, y, h, h2 => by
    have h : a = x := Option.some.inj h
    subst h
    cases q with
    | nil => cases h2
    | cons b r =>
      have h2 : b = y := Option.some.inj h2
      subst h2
      show adjB w (a :: b :: r) = _
      unfold adjB
      rw [Bool.true_and]
      cases r <;> rfl
  | a :: b :: r, q, x, y, h, h2 => by
    rw [List.getLast?_cons_cons] at h
    have ih := adj_append (w := w) (p := b :: r) (q := q) h h2
    show (nxt w a b && adjB w ((b :: r) ++ q)) = ((nxt w a b && adjB w (b :: r)) && _)
    rw [ih, Bool.and_assoc]
theorem adj_rev {w : Nat} : ∀ {p : List Cell}, adjB w p = true → adjB w p.reverse = true
  | [], _ => rfl
  | [_], _ => rfl
  | a :: b :: r, h => by
    unfold adjB at h
    rw [Bool.and_eq_true] at h
    rw [List.reverse_cons, adj_append (x := b) (y := a) (by rw [List.reverse_cons]; simp) rfl, adj_rev h.2, nxt_symm, h.1]
    rfl
section
variable {bd : List Str} {W w : Nat} {a b c : Cell} {p q : List Cell}
theorem IsWay.ne (h : IsWay bd W w a b p) : p ≠ [] := fun z => by have := h.hd; rw [z] at this; cases this
theorem IsWay.pos (h : IsWay bd W w a b p) : 1 ≤ p.length := List.length_pos_iff.mpr h.ne
theorem IsWay.last_let (h : IsWay bd W w a b p) : lt bd b = lt bd a := h.let' b (List.mem_of_getLast? h.lst)
theorem IsWay.rev (h : IsWay bd W w a b p) : IsWay bd W w b a p.reverse :=
  ⟨fun x hx => h.on x (List.mem_reverse.mp hx), by rw [List.head?_reverse]; exact h.lst, by rw [List.getLast?_reverse]; exact h.hd, fun x hx => (h.let' x (List.mem_reverse.mp hx)).trans h.last_let.symm, adj_rev h.adj⟩
theorem IsWay.cn (hw : Ways w) (hb : On bd.length W b) (h : IsWay bd W w a b p) : Cn bd W w a b := Cn.symm hw hb ⟨_, way_rb hw h⟩
theorem IsWay.one (ha : On bd.length W a) : IsWay bd W w a a [a] := ⟨fun x hx => (show x = a by simpa using hx) ▸ ha, rfl, rfl, fun x hx => by rw [show x = a by simpa using hx], rfl⟩
theorem IsWay.to8 (hw : Ways w) (h : IsWay bd W w a b p) : IsWay bd W 8 a b p := by
  refine ⟨h.on, h.hd, h.lst, h.let', ?_⟩
  rcases hw with rfl | rfl
  · have := h.adj
    clear h
    induction p with
    | nil => rfl
    | cons x r ih =>
      cases r with
      | nil => rfl
      | cons y r =>
        unfold adjB at this ⊢
        rw [Bool.and_eq_true] at this
        rw [nxt48 this.1, ih this.2]
        rfl
  · exact h.adj
theorem IsWay.cat (h : IsWay bd W w a b p) (h2 : IsWay bd W w b c q) : IsWay bd W w a c (p ++ q.tail) := by
  cases q with
  | nil => exact absurd rfl h2.ne
  | cons x r =>
    have hx : x = b := Option.some.inj h2.hd
    subst hx
    have hl := h.last_let
    refine ⟨fun y hy => ?_, ?_, ?_, fun y hy => ?_, ?_⟩
    · rcases List.mem_append.mp hy with z | z
      · exact h.on y z
      · exact h2.on y (List.mem_cons_of_mem _ z)
    · rw [List.head?_append, h.hd]; rfl
    · have := h2.lst
      cases r with
      | nil =>
        have e : x = c := Option.some.inj this
        subst e
        simp only [List.tail_cons, List.append_nil]
        exact h.lst
      | cons y r =>
        rw [List.getLast?_cons_cons] at this
        rw [List.tail_cons, List.getLast?_append, this]
        rfl
    · rcases List.mem_append.mp hy with z | z
      · exact h.let' y z
      · exact (h2.let' y (List.mem_cons_of_mem _ z)).trans hl
    · cases r with
      | nil => simp only [List.tail_cons, List.append_nil]; exact h.adj
      | cons y r =>
        have ha := h2.adj
        unfold adjB at ha
        rw [Bool.and_eq_true] at ha
        rw [List.tail_cons, adj_append h.lst rfl, h.adj, ha.1, ha.2]
        rfl
theorem IsWay.mem_cn (hw : Ways w) (ha : On bd.length W a) (h : IsWay bd W w a b p) {x : Cell} (hx : x ∈ p) : Cn bd W w a x := by
  obtain ⟨l, r, e⟩ := List.append_of_mem hx
  have h1 : IsWay bd W w a x (l ++ [x]) := by
    refine ⟨fun y hy => h.on y ?_, ?_, by simp, fun y hy => h.let' y ?_, ?_⟩
    · rw [e]; simp at hy ⊢; rcases hy with q | q <;> simp [q]
    · have := h.hd
      rw [e] at this
      cases l with
      | nil => exact this
      | cons y l => exact this
    · rw [e]; simp at hy ⊢; rcases hy with q | q <;> simp [q]
    · have := h.adj
      rw [e, show l ++ x :: r = (l ++ [x]) ++ r by simp] at this
      cases r with
      | nil => simpa using this
      | cons y r =>
        rw [adj_append (x := x) (y := y) (by simp) rfl, Bool.and_eq_true] at this
        exact this.1
  exact h1.cn hw (h.on x hx)
end
theorem memK_val {x : Cell} : ∀ {l : List Cell}, memK (keyOf x) (l.map keyOf) = decide (x ∈ l)
  | [] => rfl
  | y :: l => by
    show (decide (keyOf y = keyOf x) || memK (keyOf x) (l.map keyOf)) = _
    rw [memK_val]
    by_cases h : y = x
    · subst h; simp
    · have h2 : ¬ keyOf y = keyOf x := fun z => h (keyOf_inj z)
      rw [decide_eq_false h2, Bool.false_or, decide_eq_decide]
      constructor
      · exact fun q => List.mem_cons_of_mem _ q
      · intro q
        rcases List.mem_cons.mp q with q | q
        · exact absurd q.symm h
        · exact q
theorem keysL_val : ∀ {l : List Cell}, keysL (l.map cD) = some (l.map keyOf)
  | [] => rfl
  | y :: l => by
    show (match keyT (cD y), keysL (l.map cD) with | some k, some ks => some (k :: ks) | _, _ => none) = _
    rw [keysL_val]
    rfl
theorem inT_val {neg : Bool} {x : Cell} {l : List Cell} : gInT neg (cD x) (cL l) = M.ret (.bl (if neg then !decide (x ∈ l) else decide (x ∈ l))) := by
  show (match keyT (cD x), keysL (l.map cD) with | some k, some ks => M.ret (D.bl (if neg then !memK k ks else memK k ks)) | _, _ => M.stuck) = _
  rw [keysL_val, keyT_cD]
  show M.ret (D.bl (if neg then !memK (keyOf x) (l.map keyOf) else memK (keyOf x) (l.map keyOf))) = _
  rw [memK_val]
theorem isN_cL (neg : Bool) (l : List Cell) : gIsN neg (cL l) .non = M.ret (.bl neg) := rfl
theorem isN_non (neg : Bool) : gIsN neg .non .non = M.ret (.bl (!neg)) := rfl
theorem eq_bl (a b : Bool) : gEq (.bl a) (.bl b) = M.ret (.bl (a == b)) := rfl
theorem ne_bl (a b : Bool) : gNe (.bl a) (.bl b) = M.ret (.bl (!(a == b))) := rfl
theorem len_cL (l : List Cell) : lenM [cL l] = M.ret (.int (l.length : Int)) := by
  show M.ret (D.int ((l.map cD).length : Int)) = _
  rw [List.length_map]
theorem tail_cL {l : List Cell} (h : 1 ≤ l.length) : slM (cL l) (some 1) none = M.ret (cL l.tail) := by
  show M.ret (D.lst (cutD (l.map cD) (some 1) none)) = _
  congr 2
  unfold cutD
  have e1 : HT.sIx (l.map cD).length 0 (some 1) = 1 := by
    rw [List.length_map]
    show (if (1 : Int) < 0 then ((1 : Int) + (l.length : Int)).toNat else min (1 : Int).toNat l.length) = 1
    rw [if_neg (by decide)]
    show min 1 l.length = 1
    omega
  have e2 : HT.sIx (l.map cD).length (l.map cD).length none = (l.map cD).length := rfl
  rw [e1, e2, List.map_tail, List.drop_one, List.take_of_length_le (by simp)]
theorem cat_cL {a b : List Cell} (h : a.length + b.length ≤ 4096) : gCatL (cL a) (cL b) = M.ret (cL (a ++ b)) := by
  show (if (a.map cD).length + (b.map cD).length ≤ lim then M.ret (D.lst (a.map cD ++ b.map cD)) else M.stuck) = _
  rw [if_pos (by rw [List.length_map, List.length_map, limv]; exact h), ← List.map_append]
theorem cells_val {bd : List Str} {W : Nat} (hg : Brd bd W) : f_cells [brd bd] = M.ret (cL (cellsN bd.length W)) :=
  runD_rt (sSeq_nx (sExp_val ((callF_val (ds := [brd bd]) rfl rfl).trans hg.nb)) (sRet_val ((callF_val (ds := [brd bd]) rfl rfl).trans (all_cells_val hg))))
theorem natNe (a b : Nat) : gNe (.int (a : Int)) (.int (b : Int)) = M.ret (.bl (!(a == b))) := by
  rw [ne_int, natEq]
theorem natGt (a b : Nat) : gGt (.int (a : Int)) (.int (b : Int)) = M.ret (.bl (decide (b < a))) := by
  show M.ret (D.bl (decide ((b : Int) < (a : Int)))) = _
  congr 2
  rw [decide_eq_decide]
  omega
theorem natLe (a b : Nat) : gLe (.int (a : Int)) (.int (b : Int)) = M.ret (.bl (decide (a ≤ b))) := by
  show M.ret (D.bl (decide ((a : Int) ≤ (b : Int)))) = _
  congr 2
  rw [decide_eq_decide]
  omega
theorem none_left {δi : DA} {δt : DT} {ρ : Rho} {xs : List Cell} (h : δi ρ = M.ret (xs.map cD)) (h2 : ∀ x ∈ xs, δt (fz (cD x) :: ρ) = M.ret false) : tB' (d2 gNe (dComp 0 δi δt (dV 0)) (dA mkLst aN)) ρ = M.ret false := by
  have cm : dComp 0 δi δt (dV 0) ρ = M.ret (.lst []) := by
    refine dComp_val h ?_ (Nat.zero_le _)
    have := compL_fil (f := compF 0 δt (dV 0) ρ) cD (fun _ => false) xs fun x hx => by rw [compFt, h2 x hx]; rfl
    rw [this, show xs.filter (fun _ => false) = [] from List.filter_eq_nil_iff.mpr fun _ _ => by simp]
    rfl
  exact tB_b ((d2_val cm (y := .lst []) rfl).trans rfl)
end K1


set_option Elab.async false
set_option linter.all false
set_option maxRecDepth 100000
namespace K1
open PySem L2 L3
theorem cells_at {R W v : Nat} (h : v < R * W) : ∃ c, On R W c ∧ (cellsN R W)[v]? = some c := by
  have hv : v < (cellsN R W).length := by rw [len_cellsN]; exact h
  exact ⟨(cellsN R W)[v], mem_cellsN.mp (List.getElem_mem _), List.getElem?_eq_getElem hv⟩
theorem pick_val (ns : List Int) (hl : ns.length ≤ 63) {R W : Nat} (h : 0 < R * W) (k : Nat) : ∃ c, On R W c ∧ ∃ v : Nat, v < R * W ∧ f_law_drawn [.scr ns, .int (k : Int), .int ((R * W : Nat) : Int)] = M.ret (.int (v : Int)) ∧ gIxL (cL (cellsN R W)) (.int (v : Int)) = M.ret (cD c) := by
  obtain ⟨v, hv, e⟩ := drawn_val ns hl k (R * W) h
  obtain ⟨c, hc, e2⟩ := cells_at hv
  exact ⟨c, hc, v, hv, e, ixL_at e2⟩
theorem len_cells {R W : Nat} {δ : DE} {ρ : Rho} (h : δ ρ = M.ret (cL (cellsN R W))) : dA lenM (aC δ aN) ρ = M.ret (.int ((R * W : Nat) : Int)) := by
  refine (dA_val (xs := [cL (cellsN R W)]) (aC_val h rfl)).trans ?_
  rw [len_cL, len_cellsN]
theorem pick_one (ns : List Int) (hl : ns.length ≤ 63) {R W : Nat} (h : 0 < R * W) {i s : Nat} {δk : DE} {ρ : Rho} {k : Nat} (hi : dV i ρ = M.ret (cL (cellsN R W))) (hs : dV s ρ = M.ret (.scr ns)) (hk : δk ρ = M.ret (.int (k : Int))) :
    ∃ c, On R W c ∧ d2 gIxL (dV i) (callF 3 f_law_drawn (aC (dV s) (aC δk (aC (dA lenM (aC (dV i) aN)) aN)))) ρ = M.ret (cD c) := by
  obtain ⟨c, hc, v, hv, e1, e2⟩ := pick_val ns hl h k
  exact ⟨c, hc, (d2_val hi ((callF_val (ds := [.scr ns, .int (k : Int), .int ((R * W : Nat) : Int)]) (aC_val hs (aC_val hk (aC_val (len_cells hi) rfl))) rfl).trans e1)).trans e2⟩
theorem draws_val (ns : List Int) (hl : ns.length ≤ 63) {R W : Nat} (h : 0 < R * W) {i s base n : Nat} {ρ : Rho} (hi : dV i ρ = M.ret (cL (cellsN R W))) (hs : dV s ρ = M.ret (.scr ns)) (hn : n ≤ 4096) :
    ∃ cs : Nat → Cell, (∀ j, On R W (cs j)) ∧ dComp 0 (fun ρ => (aC (dC (.int (n : Int))) aN) ρ >>= rngM1) dTrue (d2 gIxL (dV (i + 1)) (callF 3 f_law_drawn (aC (dV (s + 1)) (aC (d2 gAdd (dC (.int (base : Int))) (dV 0)) (aC (dA lenM (aC (dV (i + 1)) aN)) aN))))) ρ = M.ret (.lst ((List.range n).map fun j => cD (cs j))) := by
  have hj : ∀ j : Nat, ∃ c, On R W c ∧ d2 gIxL (dV (i + 1)) (callF 3 f_law_drawn (aC (dV (s + 1)) (aC (d2 gAdd (dC (.int (base : Int))) (dV 0)) (aC (dA lenM (aC (dV (i + 1)) aN)) aN)))) (fz (.int (j : Int)) :: ρ) = M.ret (cD c) := fun j =>
    pick_one ns hl h (i := i + 1) (s := s + 1) (k := base + j) (ρ := fz (.int (j : Int)) :: ρ) hi hs rfl
  obtain ⟨cs, hcs⟩ := Classical.axiomOfChoice hj
  refine ⟨cs, fun j => (hcs j).1, ?_⟩
  refine dComp_val (rng1 (δ := dC (.int (n : Int))) rfl hn) (compL_mapN (fun (k : Nat) => D.int (k : Int)) (fun j => cD (cs j)) _ fun j _ => ?_) (by rw [List.length_map, List.length_range]; exact hn)
  rw [compF0, (hcs j).2]
  rfl
theorem dOrV_1 {a c : DE} {ρ : Rho} (h1 : a ρ = M.ret (.bl true)) : dOrV a c ρ = M.ret (.bl true) := by
  unfold dOrV
  rw [h1, bind_ret]
  rfl
theorem revL_val {i : Nat} {ρ : Rho} {l : List Cell} (h : dV i ρ = M.ret (cL l)) : dRevL (dV i) (d1 negM (dC (.int 1))) ρ = M.ret (cL l.reverse) := by
  unfold dRevL
  rw [h, bind_ret]
  show M.ret (D.lst (l.map cD).reverse) = M.ret (D.lst (l.reverse.map cD))
  rw [List.map_reverse]
theorem way_self {bd : List Str} {W w : Nat} (hg : Brd bd W) (hw : Ways w) {a : Cell} (ha : On bd.length W a) : f_way [brd bd, .int (w : Int), cD a, cD a] = M.ret (cL [a]) := by
  rcases way_val hg hw ha ha with ⟨p, h1, h2, _, e⟩ | ⟨h, _⟩
  · have hp := h2 _ (IsWay.one ha)
    have hd := h1.hd
    cases p with
    | nil => cases hd
    | cons x r =>
      have hx : x = a := Option.some.inj hd
      subst hx
      cases r with
      | nil => exact e
      | cons y r => exact absurd hp (by simp)
  · exact absurd Cn.refl h
theorem way_is {bd : List Str} {W w : Nat} (hg : Brd bd W) (hw : Ways w) {a b : Cell} (ha : On bd.length W a) (hb : On bd.length W b) {p : List Cell} (hp : IsWay bd W w a b p) :
    ∃ q, IsWay bd W w a b q ∧ (∀ r, IsWay bd W w a b r → q.length ≤ r.length) ∧ q.length ≤ 64 ∧ f_way [brd bd, .int (w : Int), cD a, cD b] = M.ret (cL q) := by
  rcases way_val hg hw ha hb with h | ⟨h, _⟩
  · exact h
  · exact absurd (hp.cn hw hb) h
theorem is_way_T {bd : List Str} {W w : Nat} (hg : Brd bd W) (hw : Ways w) {a b : Cell} (ha : On bd.length W a) (hb : On bd.length W b) {p : List Cell} (hp : IsWay bd W w a b p) (hl : p.length ≤ 4096) : f_is_way [brd bd, .int (w : Int), cD a, cD b, cL p] = M.ret (.bl true) := by
  rw [is_way_val hg hw ha hb hp.on hl, (wayB_iff hp.on).mpr hp]
theorem fence_patch {bd : List Str} {W w : Nat} {a b : Cell} {P : List Cell} (h : IsPatch bd W w a P) : fenceB bd W w a b P = true ↔ ¬ Cn bd W w a b := by
  rw [fenceB_iff]
  constructor
  · rintro ⟨_, h2, _⟩ h3
    exact h2 ((h.mem b).mpr h3)
  · intro h3
    exact ⟨(h.mem a).mpr Cn.refl, fun q => h3 ((h.mem b).mp q), fun c hc x hx => (h.mem x).mpr (((h.mem c).mp hc).step hx)⟩
theorem fence_all {bd : List Str} {W w : Nat} {a b : Cell} (hb : On bd.length W b) : fenceB bd W w a b (cellsN bd.length W) = false := by
  cases h : fenceB bd W w a b (cellsN bd.length W) with
  | false => rfl
  | true => exact absurd (mem_cellsN.mpr hb) (fenceB_iff.mp h).2.1
end K1


set_option Elab.async false
set_option linter.all false
set_option maxRecDepth 100000
namespace K1
open PySem L2 L3
section
variable {bd : List Str} {W w : Nat} {a b c : Cell}
def tail21 : DS := (sSeq (sSet 12 (callF 4 f_way (aC (dV 1) (aC (dV 6) (aC (dV 9) (aC (dV 5) aN)))))) (sIf (tB' (d2 (gIsN true) (dV 12) (dC .non))) (sSeq (sSet 13 (d2 gCatL (dV 10) (dSl (dV 12) (oS (dC (.int 1))) oN))) (sSeq (sSet 14 (callF 4 f_way (aC (dV 1) (aC (dV 6) (aC (dV 3) (aC (dV 5) aN)))))) (sIf (dOr (dNot (dTru (callF 5 f_is_way (aC (dV 1) (aC (dV 6) (aC (dV 3) (aC (dV 5) (aC (dV 13) aN)))))))) (tB' (d2 gGt (dA lenM (aC (dV 14) aN)) (dA lenM (aC (dV 13) aN))))) (sRet (dC (.bl false))) sNil))) sNil))
def inner21 : DS := (sSeq (sSet 7 (callF 4 f_way (aC (dV 1) (aC (dV 6) (aC (dV 3) (aC (dV 4) aN)))))) (sSeq (sSet 8 (callF 3 f_patch_of (aC (dV 1) (aC (dV 3) (aC (dV 6) aN))))) (sSeq (sIf (tB' (d2 gNe (callF 5 f_is_fence (aC (dV 1) (aC (dV 6) (aC (dV 3) (aC (dV 4) (aC (dV 8) aN)))))) (d2 (gIsN false) (dV 7) (dC .non)))) (sRet (dC (.bl false))) sNil) (sSeq (sIf (tB' (d2 gEq (d2 (gIsN false) (dV 7) (dC .non)) (callF 4 f_are_one (aC (dV 1) (aC (dV 6) (aC (dV 3) (aC (dV 4) aN))))))) (sRet (dC (.bl false))) sNil) (sSeq (sIf (dTru (callF 5 f_is_fence (aC (dV 1) (aC (dV 6) (aC (dV 3) (aC (dV 4) (aC (dV 2) aN))))))) (sRet (dC (.bl false))) sNil) (sSeq (sIf (tB' (d2 gNe (callF 4 f_are_one (aC (dV 1) (aC (dV 6) (aC (dV 4) (aC (dV 3) aN))))) (callF 4 f_are_one (aC (dV 1) (aC (dV 6) (aC (dV 3) (aC (dV 4) aN))))))) (sRet (dC (.bl false))) sNil) (sSeq (sIf (dOr (dNot (dTru (callF 5 f_is_way (aC (dV 1) (aC (dV 6) (aC (dV 3) (aC (dV 3) (aC (dA mkLst (aC (dV 3) aN)) aN)))))))) (tB' (d2 gNe (callF 4 f_way (aC (dV 1) (aC (dV 6) (aC (dV 3) (aC (dV 3) aN))))) (dA mkLst (aC (dV 3) aN))))) (sRet (dC (.bl false))) sNil) (sSeq (sSet 9 (dIf (tB' (d2 (gIsN true) (dV 7) (dC .non))) (dV 4) (dV 3))) (sSeq (sSet 10 (dIf (tB' (d2 (gIsN true) (dV 7) (dC .non))) (dV 7) (dA mkLst (aC (dV 3) aN)))) (sSeq (sSet 11 (callF 4 f_way (aC (dV 1) (aC (dV 6) (aC (dV 9) (aC (dV 3) aN)))))) (sSeq (sIf (dOr (tB' (d2 gNe (dA lenM (aC (dV 11) aN)) (dA lenM (aC (dV 10) aN)))) (dNot (dTru (callF 5 f_is_way (aC (dV 1) (aC (dV 6) (aC (dV 3) (aC (dV 9) (aC (dRevL (dV 11) (d1 negM (dC (.int 1)))) aN))))))))) (sRet (dC (.bl false))) sNil) (sSeq (sIf (dOr (dNot (dTru (callF 5 f_is_way (aC (dV 1) (aC (dC (.int 8)) (aC (dV 3) (aC (dV 9) (aC (dV 10) aN)))))))) (tB' (d2 gNe (dComp 0 (dItL (dV 10)) (tB' (d2 (gInT true) (dV 0) (dV 9))) (dV 0)) (dA mkLst aN)))) (sRet (dC (.bl false))) sNil) tail21))))))))))))
def body21 : DS := sFgt [6, 7, 8, 9, 10, 11, 12, 13, 14] inner21
theorem told21 (hg : Brd bd W) (hw : Ways w) (ha : On bd.length W a) (hb : On bd.length W b) :
    ∃ (n : Bool) (d7 : D) (g : Cell) (row : List Cell), f_way [brd bd, .int (w : Int), cD a, cD b] = M.ret d7 ∧ gIsN false d7 .non = M.ret (.bl n) ∧ gIsN true d7 .non = M.ret (.bl (!n)) ∧ (n = true ↔ ¬ Cn bd W w a b) ∧ On bd.length W g ∧ IsWay bd W w a g row ∧ (∀ q, IsWay bd W w a g q → row.length ≤ q.length) ∧ row.length ≤ 64 ∧
      (if !n then cD b else cD a) = cD g ∧ (if !n then d7 else cL [a]) = cL row := by
  rcases way_val hg hw ha hb with ⟨p, h1, h2, h3, e⟩ | ⟨h, e⟩
  · exact ⟨false, cL p, b, p, e, rfl, rfl, ⟨fun q => (by cases q), fun q => absurd (h1.cn hw hb) q⟩, hb, h1, h2, h3, rfl, rfl⟩
  · exact ⟨true, .non, a, [a], e, rfl, rfl, ⟨fun _ => h, fun _ => rfl⟩, ha, IsWay.one ha, fun q hq => hq.pos, by simp, rfl, rfl⟩
theorem ret_if {α : Type} {p : Bool} {x y : α} : (if p then M.ret x else M.ret y) = M.ret (if p then x else y) := by cases p <;> rfl
theorem body21_val (hg : Brd bd W) (hs : bd.length * W < 64) (hw : Ways w) (ha : On bd.length W a) (hb : On bd.length W b) (hc : On bd.length W c) (s : D) :
    body21 [fz s, fz (brd bd), fz (cL (cellsN bd.length W)), fz (cD a), fz (cD b), fz (cD c), fz (.int (w : Int)), none, none, none, none, none, none, none, none, none] =
      M.ret (.nx [fz s, fz (brd bd), fz (cL (cellsN bd.length W)), fz (cD a), fz (cD b), fz (cD c), none, none, none, none, none, none, none, none, none, none]) := by
  obtain ⟨n, d7, g, row, e7, n1, n2, hn, hgo, w1, w2, w3, g1, g2⟩ := told21 hg hw ha hb
  obtain ⟨P, hP, eP⟩ := patch_of_val hg hs hw ha
  obtain ⟨r1, h1, er1⟩ := are_one_val hg hw ha hb
  obtain ⟨r2, h2, er2⟩ := are_one_val hg hw hb ha
  have hr12 : r2 = r1 := Bool.eq_iff_iff.mpr (h2.trans (Iff.trans ⟨fun q => q.symm hw hb, fun q => q.symm hw ha⟩ h1.symm))
  have hr1 : r1 = !n := by
    cases n
    · exact h1.mpr (Classical.byContradiction fun q => by cases hn.mpr q)
    · cases r1
      · rfl
      · exact absurd (h1.mp rfl) (hn.mp rfl)
  have hPn : fenceB bd W w a b P = n := Bool.eq_iff_iff.mpr ((fence_patch hP).trans hn.symm)
  have hPon : ∀ x ∈ P, On bd.length W x := fun x hx => ((hP.mem x).mp hx).on hw ha
  have hPl : P.length < 4000 := by have := back_le (bd := bd) (W := W) hP.rise.nodup hPon; omega
  have hcl : (cellsN bd.length W).length < 4000 := by rw [len_cellsN]; omega
  obtain ⟨bk, b1, b2, b3, eb⟩ := way_is hg hw hgo ha w1.rev
  have hbl : bk.length = row.length := by
    have q1 := b2 _ w1.rev
    have q2 := w2 _ b1.rev
    rw [List.length_reverse] at q1 q2
    omega
  have pre : ∀ {o : M Out}, tail21 [fz s, fz (brd bd), fz (cL (cellsN bd.length W)), fz (cD a), fz (cD b), fz (cD c), fz (.int (w : Int)), fz d7, fz (cL P), fz (cD g), fz (cL row), fz (cL bk), none, none, none, none] = o →
      inner21 [fz s, fz (brd bd), fz (cL (cellsN bd.length W)), fz (cD a), fz (cD b), fz (cD c), fz (.int (w : Int)), none, none, none, none, none, none, none, none, none] = o := by
    intro o ho
    refine sSeq_nx (ρ' := [fz s, fz (brd bd), fz (cL (cellsN bd.length W)), fz (cD a), fz (cD b), fz (cD c), fz (.int (w : Int)), fz d7, none, none, none, none, none, none, none, none]) ((sSet_val (d := d7) ((callF_val (ds := [brd bd, .int (w : Int), cD a, cD b]) rfl rfl).trans e7)).trans rfl) ?_
    refine sSeq_nx (ρ' := [fz s, fz (brd bd), fz (cL (cellsN bd.length W)), fz (cD a), fz (cD b), fz (cD c), fz (.int (w : Int)), fz d7, fz (cL P), none, none, none, none, none, none, none]) ((sSet_val (d := cL P) ((callF_val (ds := [brd bd, cD a, .int (w : Int)]) rfl rfl).trans eP)).trans rfl) ?_
    refine sSeq_nx (sIf_F (tB_b ((d2_val (x := .bl n) (y := .bl n) ((callF_val (ds := [brd bd, .int (w : Int), cD a, cD b, cL P]) rfl rfl).trans ((is_fence_val hg hw ha hb hPon hPl).trans (by rw [hPn]))) ((d2_val (x := d7) (y := .non) rfl rfl).trans n1)).trans ((ne_bl n n).trans (by rw [show (!(n == n)) = false by cases n <;> rfl])))) rfl) ?_
    refine sSeq_nx (sIf_F (tB_b ((d2_val (x := .bl n) (y := .bl r1) ((d2_val (x := d7) (y := .non) rfl rfl).trans n1) ((callF_val (ds := [brd bd, .int (w : Int), cD a, cD b]) rfl rfl).trans er1)).trans ((eq_bl n r1).trans (by rw [hr1, show (n == !n) = false by cases n <;> rfl])))) rfl) ?_
    refine sSeq_nx (sIf_F (dTru_b ((callF_val (ds := [brd bd, .int (w : Int), cD a, cD b, cL (cellsN bd.length W)]) rfl rfl).trans ((is_fence_val hg hw ha hb (fun x hx => mem_cellsN.mp hx) hcl).trans (by rw [fence_all hb])))) rfl) ?_
    refine sSeq_nx (sIf_F (tB_b ((d2_val (x := .bl r2) (y := .bl r1) ((callF_val (ds := [brd bd, .int (w : Int), cD b, cD a]) rfl rfl).trans er2) ((callF_val (ds := [brd bd, .int (w : Int), cD a, cD b]) rfl rfl).trans er1)).trans ((ne_bl r2 r1).trans (by rw [hr12, show (!(r1 == r1)) = false by cases r1 <;> rfl])))) rfl) ?_
    refine sSeq_nx (sIf_F (dOr_b (p := false) (q := false) (dNot_b (b := true) (dTru_b ((callF_val (ds := [brd bd, .int (w : Int), cD a, cD a, cL [a]]) rfl rfl).trans (is_way_T hg hw ha ha (IsWay.one ha) (by simp))))) (tB_b ((d2_val (x := cL [a]) (y := cL [a]) ((callF_val (ds := [brd bd, .int (w : Int), cD a, cD a]) rfl rfl).trans (way_self hg hw ha)) rfl).trans ((ne_cL _ _).trans (by simp))))) rfl) ?_
    refine sSeq_nx (ρ' := [fz s, fz (brd bd), fz (cL (cellsN bd.length W)), fz (cD a), fz (cD b), fz (cD c), fz (.int (w : Int)), fz d7, fz (cL P), fz (cD g), none, none, none, none, none, none]) ((sSet_val (d := cD g) ((dIf_b (p := !n) (tB_b ((d2_val (x := d7) (y := .non) rfl rfl).trans n2))).trans ((ret_if (x := cD b) (y := cD a)).trans (by rw [g1])))).trans rfl) ?_
    refine sSeq_nx (ρ' := [fz s, fz (brd bd), fz (cL (cellsN bd.length W)), fz (cD a), fz (cD b), fz (cD c), fz (.int (w : Int)), fz d7, fz (cL P), fz (cD g), fz (cL row), none, none, none, none, none]) ((sSet_val (d := cL row) ((dIf_b (p := !n) (tB_b ((d2_val (x := d7) (y := .non) rfl rfl).trans n2))).trans ((ret_if (x := d7) (y := cL [a])).trans (by rw [g2])))).trans rfl) ?_
    refine sSeq_nx (ρ' := [fz s, fz (brd bd), fz (cL (cellsN bd.length W)), fz (cD a), fz (cD b), fz (cD c), fz (.int (w : Int)), fz d7, fz (cL P), fz (cD g), fz (cL row), fz (cL bk), none, none, none, none]) ((sSet_val (d := cL bk) ((callF_val (ds := [brd bd, .int (w : Int), cD g, cD a]) rfl rfl).trans eb)).trans rfl) ?_
    refine sSeq_nx (sIf_F (dOr_b (p := false) (q := false) (tB_b ((d2_val (x := .int (bk.length : Int)) (y := .int (row.length : Int)) ((dA_val (xs := [cL bk]) rfl).trans (len_cL _)) ((dA_val (xs := [cL row]) rfl).trans (len_cL _))).trans ((natNe _ _).trans (by rw [hbl]; simp)))) (dNot_b (b := true) (dTru_b ((callF_val (ds := [brd bd, .int (w : Int), cD a, cD g, cL bk.reverse]) (aC_val rfl (aC_val rfl (aC_val rfl (aC_val rfl (aC_val (revL_val rfl) rfl))))) rfl).trans (is_way_T hg hw ha hgo b1.rev (by rw [List.length_reverse]; omega)))))) rfl) ?_
    refine sSeq_nx (sIf_F (dOr_b (p := false) (q := false) (dNot_b (b := true) (dTru_b ((callF_val (ds := [brd bd, .int 8, cD a, cD g, cL row]) rfl rfl).trans (is_way_T (w := 8) hg (.inr rfl) ha hgo (w1.to8 hw) (by omega))))) (none_left (xs := row) (itL rfl) fun x hx => tB_b ((d2_val (x := cD x) (y := cL P) rfl rfl).trans (inT_val.trans (by rw [decide_eq_true ((hP.mem x).mpr (w1.mem_cn hw ha hx))]; rfl))))) rfl) ?_
    exact ho
  rcases way_val hg hw hgo hc with ⟨q, q1, q2, q3, eq⟩ | ⟨_, eq⟩
  · have wc := w1.cat q1
    have wl : (row ++ q.tail).length ≤ 200 := by rw [List.length_append, List.length_tail]; omega
    obtain ⟨m, m1, m2, m3, em⟩ := way_is hg hw ha hc wc
    refine (sFgt_nx (ρ' := [fz s, fz (brd bd), fz (cL (cellsN bd.length W)), fz (cD a), fz (cD b), fz (cD c), fz (.int (w : Int)), fz d7, fz (cL P), fz (cD g), fz (cL row), fz (cL bk), fz (cL q), fz (cL (row ++ q.tail)), fz (cL m), none]) (pre ?_)).trans rfl
    refine sSeq_nx (ρ' := [fz s, fz (brd bd), fz (cL (cellsN bd.length W)), fz (cD a), fz (cD b), fz (cD c), fz (.int (w : Int)), fz d7, fz (cL P), fz (cD g), fz (cL row), fz (cL bk), fz (cL q), none, none, none]) ((sSet_val (d := cL q) ((callF_val (ds := [brd bd, .int (w : Int), cD g, cD c]) rfl rfl).trans eq)).trans rfl) ?_
    refine sIf_T (tB_b ((d2_val (x := cL q) (y := .non) rfl rfl).trans (isN_cL true q))) ?_
    refine sSeq_nx (ρ' := [fz s, fz (brd bd), fz (cL (cellsN bd.length W)), fz (cD a), fz (cD b), fz (cD c), fz (.int (w : Int)), fz d7, fz (cL P), fz (cD g), fz (cL row), fz (cL bk), fz (cL q), fz (cL (row ++ q.tail)), none, none]) ((sSet_val (d := cL (row ++ q.tail)) ((d2_val (x := cL row) (y := cL q.tail) rfl (tail_cL q1.pos)).trans (cat_cL (by rw [List.length_tail]; omega)))).trans rfl) ?_
    refine sSeq_nx (ρ' := [fz s, fz (brd bd), fz (cL (cellsN bd.length W)), fz (cD a), fz (cD b), fz (cD c), fz (.int (w : Int)), fz d7, fz (cL P), fz (cD g), fz (cL row), fz (cL bk), fz (cL q), fz (cL (row ++ q.tail)), fz (cL m), none]) ((sSet_val (d := cL m) ((callF_val (ds := [brd bd, .int (w : Int), cD a, cD c]) rfl rfl).trans em)).trans rfl) ?_
    refine sIf_F (dOr_b (p := false) (q := false) (dNot_b (b := true) (dTru_b ((callF_val (ds := [brd bd, .int (w : Int), cD a, cD c, cL (row ++ q.tail)]) rfl rfl).trans (is_way_T hg hw ha hc wc (by omega))))) (tB_b ((d2_val (x := .int (m.length : Int)) (y := .int ((row ++ q.tail).length : Int)) ((dA_val (xs := [cL m]) rfl).trans (len_cL _)) ((dA_val (xs := [cL (row ++ q.tail)]) rfl).trans (len_cL _))).trans ((natGt _ _).trans (by rw [decide_eq_false (Nat.not_lt.mpr (m2 _ wc))]))))) rfl
  · refine (sFgt_nx (ρ' := [fz s, fz (brd bd), fz (cL (cellsN bd.length W)), fz (cD a), fz (cD b), fz (cD c), fz (.int (w : Int)), fz d7, fz (cL P), fz (cD g), fz (cL row), fz (cL bk), fz .non, none, none, none]) (pre ?_)).trans rfl
    refine sSeq_nx (ρ' := [fz s, fz (brd bd), fz (cL (cellsN bd.length W)), fz (cD a), fz (cD b), fz (cD c), fz (.int (w : Int)), fz d7, fz (cL P), fz (cD g), fz (cL row), fz (cL bk), fz .non, none, none, none]) ((sSet_val (d := .non) ((callF_val (ds := [brd bd, .int (w : Int), cD g, cD c]) rfl rfl).trans eq)).trans rfl) ?_
    exact sIf_F (tB_b ((d2_val (x := .non) (y := .non) rfl rfl).trans (isN_non true))) rfl
end
theorem law_true (ns : List Int) (hl : ns.length ≤ 63) : f_law_k21 [.scr ns] = M.ret (.bl true) := by
  obtain ⟨bd, W, hG, eb⟩ := board_val ns hl 0 5 (by decide) (by decide)
  have hg := hG.brd
  have hs : bd.length * W < 64 := Nat.lt_of_le_of_lt (Nat.mul_le_mul hG.r5 hG.w5) (by decide)
  have h0 : 0 < bd.length * W := Nat.mul_pos hg.r1 hg.w1
  refine runD_rt ?_
  refine sSeq_nx (ρ' := [fz (.scr ns), fz (brd bd), none, none, none, none, none, none, none, none, none, none, none, none, none, none]) ((sSet_val (d := brd bd) ((callF_val (ds := [.scr ns, .int 0, .int 5]) rfl rfl).trans eb)).trans rfl) ?_
  refine sSeq_nx (ρ' := [fz (.scr ns), fz (brd bd), fz (cL (cellsN bd.length W)), none, none, none, none, none, none, none, none, none, none, none, none, none]) ((sSet_val (d := cL (cellsN bd.length W)) ((callF_val (ds := [brd bd]) rfl rfl).trans (cells_val hg))).trans rfl) ?_
  obtain ⟨cs, hcs, ec⟩ := draws_val ns hl h0 (i := 2) (s := 0) (base := 50) (n := 3) (ρ := [fz (.scr ns), fz (brd bd), fz (cL (cellsN bd.length W)), none, none, none, none, none, none, none, none, none, none, none, none, none]) rfl rfl (by decide)
  refine sSeq_nx (ρ' := [fz (.scr ns), fz (brd bd), fz (cL (cellsN bd.length W)), fz (cD (cs 0)), fz (cD (cs 1)), fz (cD (cs 2)), none, none, none, none, none, none, none, none, none, none]) (by unfold τ_law_k21_2 sAsg; exact (congrArg (· >>= _) ec).trans rfl) ?_
  refine sSeq_nx (ρ' := [fz (.scr ns), fz (brd bd), fz (cL (cellsN bd.length W)), fz (cD (cs 0)), fz (cD (cs 1)), fz (cD (cs 2)), none, none, none, none, none, none, none, none, none, none]) ?_ ?_
  · refine noex_nx (sForL (ds := [4, 8].map fun (w : Nat) => D.int (w : Int)) rfl (forL_same (body := body21) (fun (w : Nat) => D.int (w : Int)) _ [4, 8] fun w hw => ?_))
    refine ⟨_, rfl, body21_val hg hs ?_ (hcs 0) (hcs 1) (hcs 2) (.scr ns)⟩
    have : w = 4 ∨ w = 8 := by simpa using hw
    exact this
  have h4 : Ways 4 := .inl rfl
  have h8 : Ways 8 := .inr rfl
  rcases way_val hg h4 (hcs 0) (hcs 1) with ⟨p, p1, p2, p3, ep⟩ | ⟨_, ep⟩
  · refine sSeq_nx (ρ' := [fz (.scr ns), fz (brd bd), fz (cL (cellsN bd.length W)), fz (cD (cs 0)), fz (cD (cs 1)), fz (cD (cs 2)), none, none, none, none, none, none, none, none, none, fz (cL p)]) ((sSet_val (d := cL p) ((callF_val (ds := [brd bd, .int 4, cD (cs 0), cD (cs 1)]) rfl rfl).trans ep)).trans rfl) ?_
    obtain ⟨q, q1, q2, q3, eq⟩ := way_is hg h8 (hcs 0) (hcs 1) (p1.to8 h4)
    refine sRet_val ((dOrV_b (p := false) (q := true) ((d2_val (x := cL p) (y := .non) rfl rfl).trans (isN_cL false p)) ?_).trans rfl)
    refine (d2_val (x := .int (q.length : Int)) (y := .int (p.length : Int)) ((dA_val (xs := [cL q]) (aC_val ((callF_val (ds := [brd bd, .int 8, cD (cs 0), cD (cs 1)]) rfl rfl).trans eq) rfl)).trans (len_cL _)) ((dA_val (xs := [cL p]) rfl).trans (len_cL _))).trans ((natLe _ _).trans ?_)
    rw [decide_eq_true (q2 _ (p1.to8 h4))]
  · refine sSeq_nx (ρ' := [fz (.scr ns), fz (brd bd), fz (cL (cellsN bd.length W)), fz (cD (cs 0)), fz (cD (cs 1)), fz (cD (cs 2)), none, none, none, none, none, none, none, none, none, fz .non]) ((sSet_val (d := .non) ((callF_val (ds := [brd bd, .int 4, cD (cs 0), cD (cs 1)]) rfl rfl).trans ep)).trans rfl) ?_
    exact sRet_val (dOrV_1 ((d2_val (x := .non) (y := .non) rfl rfl).trans (isN_non false)))
end K1


namespace K1
open PySem PySem.Spec L2 L3
open PyProof.Rows hiding St
theorem all_mk {P : Program} {w : World} {K : PySem.W.Frag} {h : Heap} {mg : Str → Option Value} {fa : Addr} (X : K.In h) (G : h.Ns mainGlobals mg) (hfa : mg "law" = some (.ref fa))
    {f_is_wholeA : Addr} {od_is_whole an_is_whole : Option Addr} {sl_is_whole : Array (Option Value)} {oc_is_whole kV_is_whole dc_is_whole pm_is_whole cd_is_whole ct_is_whole : Value}
    {f_is_letterA : Addr} {od_is_letter an_is_letter : Option Addr} {sl_is_letter : Array (Option Value)} {oc_is_letter kV_is_letter dc_is_letter pm_is_letter cd_is_letter ct_is_letter : Value}
    {f_cells_of_rowA : Addr} {od_cells_of_row an_cells_of_row : Option Addr} {sl_cells_of_row : Array (Option Value)} {oc_cells_of_row kV_cells_of_row dc_cells_of_row pm_cells_of_row cd_cells_of_row ct_cells_of_row : Value}
    {f_letter_ofA : Addr} {od_letter_of an_letter_of : Option Addr} {sl_letter_of : Array (Option Value)} {oc_letter_of kV_letter_of dc_letter_of pm_letter_of cd_letter_of ct_letter_of : Value}
    {f_are_nextA : Addr} {od_are_next an_are_next : Option Addr} {sl_are_next : Array (Option Value)} {oc_are_next kV_are_next dc_are_next pm_are_next cd_are_next ct_are_next : Value}
    {f_keyedA : Addr} {od_keyed an_keyed : Option Addr} {sl_keyed : Array (Option Value)} {oc_keyed kV_keyed dc_keyed pm_keyed cd_keyed ct_keyed : Value}
    {f_law_cellA : Addr} {od_law_cell an_law_cell : Option Addr} {sl_law_cell : Array (Option Value)} {oc_law_cell kV_law_cell dc_law_cell pm_law_cell cd_law_cell ct_law_cell : Value}
    {f_is_rowA : Addr} {od_is_row an_is_row : Option Addr} {sl_is_row : Array (Option Value)} {oc_is_row kV_is_row dc_is_row pm_is_row cd_is_row ct_is_row : Value}
    {f_is_cellA : Addr} {od_is_cell an_is_cell : Option Addr} {sl_is_cell : Array (Option Value)} {oc_is_cell kV_is_cell dc_is_cell pm_is_cell cd_is_cell ct_is_cell : Value}
    {f_need_waysA : Addr} {od_need_ways an_need_ways : Option Addr} {sl_need_ways : Array (Option Value)} {oc_need_ways kV_need_ways dc_need_ways pm_need_ways cd_need_ways ct_need_ways : Value}
    {f_all_cellsA : Addr} {od_all_cells an_all_cells : Option Addr} {sl_all_cells : Array (Option Value)} {oc_all_cells kV_all_cells dc_all_cells pm_all_cells cd_all_cells ct_all_cells : Value}
    {f_next_cellsA : Addr} {od_next_cells an_next_cells : Option Addr} {sl_next_cells : Array (Option Value)} {oc_next_cells kV_next_cells dc_next_cells pm_next_cells cd_next_cells ct_next_cells : Value}
    {f_law_drawnA : Addr} {od_law_drawn an_law_drawn : Option Addr} {sl_law_drawn : Array (Option Value)} {oc_law_drawn kV_law_drawn dc_law_drawn pm_law_drawn cd_law_drawn ct_law_drawn : Value}
    {f_is_boardA : Addr} {od_is_board an_is_board : Option Addr} {sl_is_board : Array (Option Value)} {oc_is_board kV_is_board dc_is_board pm_is_board cd_is_board ct_is_board : Value}
    {f_is_list_of_cellsA : Addr} {od_is_list_of_cells an_is_list_of_cells : Option Addr} {sl_is_list_of_cells : Array (Option Value)} {oc_is_list_of_cells kV_is_list_of_cells dc_is_list_of_cells pm_is_list_of_cells cd_is_list_of_cells ct_is_list_of_cells : Value}
    {f_need_cellA : Addr} {od_need_cell an_need_cell : Option Addr} {sl_need_cell : Array (Option Value)} {oc_need_cell kV_need_cell dc_need_cell pm_need_cell cd_need_cell ct_need_cell : Value}
    {f_like_cellsA : Addr} {od_like_cells an_like_cells : Option Addr} {sl_like_cells : Array (Option Value)} {oc_like_cells kV_like_cells dc_like_cells pm_like_cells cd_like_cells ct_like_cells : Value}
    {f_law_boardA : Addr} {od_law_board an_law_board : Option Addr} {sl_law_board : Array (Option Value)} {oc_law_board kV_law_board dc_law_board pm_law_board cd_law_board ct_law_board : Value}
    {f_need_boardA : Addr} {od_need_board an_need_board : Option Addr} {sl_need_board : Array (Option Value)} {oc_need_board kV_need_board dc_need_board pm_need_board cd_need_board ct_need_board : Value}
    {f_steps_backA : Addr} {od_steps_back an_steps_back : Option Addr} {sl_steps_back : Array (Option Value)} {oc_steps_back kV_steps_back dc_steps_back pm_steps_back cd_steps_back ct_steps_back : Value}
    {f_cellsA : Addr} {od_cells an_cells : Option Addr} {sl_cells : Array (Option Value)} {oc_cells kV_cells dc_cells pm_cells cd_cells ct_cells : Value}
    {f_need_two_cellsA : Addr} {od_need_two_cells an_need_two_cells : Option Addr} {sl_need_two_cells : Array (Option Value)} {oc_need_two_cells kV_need_two_cells dc_need_two_cells pm_need_two_cells cd_need_two_cells ct_need_two_cells : Value}
    {f_patch_ofA : Addr} {od_patch_of an_patch_of : Option Addr} {sl_patch_of : Array (Option Value)} {oc_patch_of kV_patch_of dc_patch_of pm_patch_of cd_patch_of ct_patch_of : Value}
    {f_are_oneA : Addr} {od_are_one an_are_one : Option Addr} {sl_are_one : Array (Option Value)} {oc_are_one kV_are_one dc_are_one pm_are_one cd_are_one ct_are_one : Value}
    {f_wayA : Addr} {od_way an_way : Option Addr} {sl_way : Array (Option Value)} {oc_way kV_way dc_way pm_way cd_way ct_way : Value}
    {f_is_wayA : Addr} {od_is_way an_is_way : Option Addr} {sl_is_way : Array (Option Value)} {oc_is_way kV_is_way dc_is_way pm_is_way cd_is_way ct_is_way : Value}
    {f_is_fenceA : Addr} {od_is_fence an_is_fence : Option Addr} {sl_is_fence : Array (Option Value)} {oc_is_fence kV_is_fence dc_is_fence pm_is_fence cd_is_fence ct_is_fence : Value}
    {f_law_k21A : Addr} {od_law_k21 an_law_k21 : Option Addr} {sl_law_k21 : Array (Option Value)} {oc_law_k21 kV_law_k21 dc_law_k21 pm_law_k21 cd_law_k21 ct_law_k21 : Value}
    {t_LETTERS : Tok}
    {t_MOST_ROWS : Tok}
    {t_MOST_COLUMNS : Tok}
    (a_is_whole : PySem.W.nsIn K mainGlobals "is_whole" = some (some (.ref f_is_wholeA))) (l_is_whole : K.lookup f_is_wholeA = some ⟨oc_is_whole, od_is_whole, .func (PySem.W.fnOf "is_whole" "is_whole" (defArgs s_is_whole) (defBody s_is_whole) (defScope s_is_whole) .none kV_is_whole dc_is_whole pm_is_whole an_is_whole cd_is_whole ct_is_whole), sl_is_whole⟩) (c_is_whole : PySem.W.codeIn K cd_is_whole "is_whole" = true) (k_is_whole : PySem.W.keepIn K (.ref f_is_wholeA) = true)
    (a_is_letter : PySem.W.nsIn K mainGlobals "is_letter" = some (some (.ref f_is_letterA))) (l_is_letter : K.lookup f_is_letterA = some ⟨oc_is_letter, od_is_letter, .func (PySem.W.fnOf "is_letter" "is_letter" (defArgs s_is_letter) (defBody s_is_letter) (defScope s_is_letter) .none kV_is_letter dc_is_letter pm_is_letter an_is_letter cd_is_letter ct_is_letter), sl_is_letter⟩) (c_is_letter : PySem.W.codeIn K cd_is_letter "is_letter" = true) (k_is_letter : PySem.W.keepIn K (.ref f_is_letterA) = true)
    (a_cells_of_row : PySem.W.nsIn K mainGlobals "cells_of_row" = some (some (.ref f_cells_of_rowA))) (l_cells_of_row : K.lookup f_cells_of_rowA = some ⟨oc_cells_of_row, od_cells_of_row, .func (PySem.W.fnOf "cells_of_row" "cells_of_row" (defArgs s_cells_of_row) (defBody s_cells_of_row) (defScope s_cells_of_row) .none kV_cells_of_row dc_cells_of_row pm_cells_of_row an_cells_of_row cd_cells_of_row ct_cells_of_row), sl_cells_of_row⟩) (c_cells_of_row : PySem.W.codeIn K cd_cells_of_row "cells_of_row" = true) (k_cells_of_row : PySem.W.keepIn K (.ref f_cells_of_rowA) = true)
    (a_letter_of : PySem.W.nsIn K mainGlobals "letter_of" = some (some (.ref f_letter_ofA))) (l_letter_of : K.lookup f_letter_ofA = some ⟨oc_letter_of, od_letter_of, .func (PySem.W.fnOf "letter_of" "letter_of" (defArgs s_letter_of) (defBody s_letter_of) (defScope s_letter_of) .none kV_letter_of dc_letter_of pm_letter_of an_letter_of cd_letter_of ct_letter_of), sl_letter_of⟩) (c_letter_of : PySem.W.codeIn K cd_letter_of "letter_of" = true) (k_letter_of : PySem.W.keepIn K (.ref f_letter_ofA) = true)
    (a_are_next : PySem.W.nsIn K mainGlobals "are_next" = some (some (.ref f_are_nextA))) (l_are_next : K.lookup f_are_nextA = some ⟨oc_are_next, od_are_next, .func (PySem.W.fnOf "are_next" "are_next" (defArgs s_are_next) (defBody s_are_next) (defScope s_are_next) .none kV_are_next dc_are_next pm_are_next an_are_next cd_are_next ct_are_next), sl_are_next⟩) (c_are_next : PySem.W.codeIn K cd_are_next "are_next" = true) (k_are_next : PySem.W.keepIn K (.ref f_are_nextA) = true)
    (a_keyed : PySem.W.nsIn K mainGlobals "keyed" = some (some (.ref f_keyedA))) (l_keyed : K.lookup f_keyedA = some ⟨oc_keyed, od_keyed, .func (PySem.W.fnOf "keyed" "keyed" (defArgs s_keyed) (defBody s_keyed) (defScope s_keyed) .none kV_keyed dc_keyed pm_keyed an_keyed cd_keyed ct_keyed), sl_keyed⟩) (c_keyed : PySem.W.codeIn K cd_keyed "keyed" = true) (k_keyed : PySem.W.keepIn K (.ref f_keyedA) = true)
    (a_law_cell : PySem.W.nsIn K mainGlobals "_law_cell" = some (some (.ref f_law_cellA))) (l_law_cell : K.lookup f_law_cellA = some ⟨oc_law_cell, od_law_cell, .func (PySem.W.fnOf "_law_cell" "_law_cell" (defArgs s_law_cell) (defBody s_law_cell) (defScope s_law_cell) .none kV_law_cell dc_law_cell pm_law_cell an_law_cell cd_law_cell ct_law_cell), sl_law_cell⟩) (c_law_cell : PySem.W.codeIn K cd_law_cell "_law_cell" = true) (k_law_cell : PySem.W.keepIn K (.ref f_law_cellA) = true)
    (a_is_row : PySem.W.nsIn K mainGlobals "is_row" = some (some (.ref f_is_rowA))) (l_is_row : K.lookup f_is_rowA = some ⟨oc_is_row, od_is_row, .func (PySem.W.fnOf "is_row" "is_row" (defArgs s_is_row) (defBody s_is_row) (defScope s_is_row) .none kV_is_row dc_is_row pm_is_row an_is_row cd_is_row ct_is_row), sl_is_row⟩) (c_is_row : PySem.W.codeIn K cd_is_row "is_row" = true) (k_is_row : PySem.W.keepIn K (.ref f_is_rowA) = true)
    (a_is_cell : PySem.W.nsIn K mainGlobals "is_cell" = some (some (.ref f_is_cellA))) (l_is_cell : K.lookup f_is_cellA = some ⟨oc_is_cell, od_is_cell, .func (PySem.W.fnOf "is_cell" "is_cell" (defArgs s_is_cell) (defBody s_is_cell) (defScope s_is_cell) .none kV_is_cell dc_is_cell pm_is_cell an_is_cell cd_is_cell ct_is_cell), sl_is_cell⟩) (c_is_cell : PySem.W.codeIn K cd_is_cell "is_cell" = true) (k_is_cell : PySem.W.keepIn K (.ref f_is_cellA) = true)
    (a_need_ways : PySem.W.nsIn K mainGlobals "need_ways" = some (some (.ref f_need_waysA))) (l_need_ways : K.lookup f_need_waysA = some ⟨oc_need_ways, od_need_ways, .func (PySem.W.fnOf "need_ways" "need_ways" (defArgs s_need_ways) (defBody s_need_ways) (defScope s_need_ways) .none kV_need_ways dc_need_ways pm_need_ways an_need_ways cd_need_ways ct_need_ways), sl_need_ways⟩) (c_need_ways : PySem.W.codeIn K cd_need_ways "need_ways" = true) (k_need_ways : PySem.W.keepIn K (.ref f_need_waysA) = true)
    (a_all_cells : PySem.W.nsIn K mainGlobals "all_cells" = some (some (.ref f_all_cellsA))) (l_all_cells : K.lookup f_all_cellsA = some ⟨oc_all_cells, od_all_cells, .func (PySem.W.fnOf "all_cells" "all_cells" (defArgs s_all_cells) (defBody s_all_cells) (defScope s_all_cells) .none kV_all_cells dc_all_cells pm_all_cells an_all_cells cd_all_cells ct_all_cells), sl_all_cells⟩) (c_all_cells : PySem.W.codeIn K cd_all_cells "all_cells" = true) (k_all_cells : PySem.W.keepIn K (.ref f_all_cellsA) = true)
    (a_next_cells : PySem.W.nsIn K mainGlobals "next_cells" = some (some (.ref f_next_cellsA))) (l_next_cells : K.lookup f_next_cellsA = some ⟨oc_next_cells, od_next_cells, .func (PySem.W.fnOf "next_cells" "next_cells" (defArgs s_next_cells) (defBody s_next_cells) (defScope s_next_cells) .none kV_next_cells dc_next_cells pm_next_cells an_next_cells cd_next_cells ct_next_cells), sl_next_cells⟩) (c_next_cells : PySem.W.codeIn K cd_next_cells "next_cells" = true) (k_next_cells : PySem.W.keepIn K (.ref f_next_cellsA) = true)
    (a_law_drawn : PySem.W.nsIn K mainGlobals "_law_drawn" = some (some (.ref f_law_drawnA))) (l_law_drawn : K.lookup f_law_drawnA = some ⟨oc_law_drawn, od_law_drawn, .func (PySem.W.fnOf "_law_drawn" "_law_drawn" (defArgs s_law_drawn) (defBody s_law_drawn) (defScope s_law_drawn) .none kV_law_drawn dc_law_drawn pm_law_drawn an_law_drawn cd_law_drawn ct_law_drawn), sl_law_drawn⟩) (c_law_drawn : PySem.W.codeIn K cd_law_drawn "_law_drawn" = true) (k_law_drawn : PySem.W.keepIn K (.ref f_law_drawnA) = true)
    (a_is_board : PySem.W.nsIn K mainGlobals "is_board" = some (some (.ref f_is_boardA))) (l_is_board : K.lookup f_is_boardA = some ⟨oc_is_board, od_is_board, .func (PySem.W.fnOf "is_board" "is_board" (defArgs s_is_board) (defBody s_is_board) (defScope s_is_board) .none kV_is_board dc_is_board pm_is_board an_is_board cd_is_board ct_is_board), sl_is_board⟩) (c_is_board : PySem.W.codeIn K cd_is_board "is_board" = true) (k_is_board : PySem.W.keepIn K (.ref f_is_boardA) = true)
    (a_is_list_of_cells : PySem.W.nsIn K mainGlobals "is_list_of_cells" = some (some (.ref f_is_list_of_cellsA))) (l_is_list_of_cells : K.lookup f_is_list_of_cellsA = some ⟨oc_is_list_of_cells, od_is_list_of_cells, .func (PySem.W.fnOf "is_list_of_cells" "is_list_of_cells" (defArgs s_is_list_of_cells) (defBody s_is_list_of_cells) (defScope s_is_list_of_cells) .none kV_is_list_of_cells dc_is_list_of_cells pm_is_list_of_cells an_is_list_of_cells cd_is_list_of_cells ct_is_list_of_cells), sl_is_list_of_cells⟩) (c_is_list_of_cells : PySem.W.codeIn K cd_is_list_of_cells "is_list_of_cells" = true) (k_is_list_of_cells : PySem.W.keepIn K (.ref f_is_list_of_cellsA) = true)
    (a_need_cell : PySem.W.nsIn K mainGlobals "need_cell" = some (some (.ref f_need_cellA))) (l_need_cell : K.lookup f_need_cellA = some ⟨oc_need_cell, od_need_cell, .func (PySem.W.fnOf "need_cell" "need_cell" (defArgs s_need_cell) (defBody s_need_cell) (defScope s_need_cell) .none kV_need_cell dc_need_cell pm_need_cell an_need_cell cd_need_cell ct_need_cell), sl_need_cell⟩) (c_need_cell : PySem.W.codeIn K cd_need_cell "need_cell" = true) (k_need_cell : PySem.W.keepIn K (.ref f_need_cellA) = true)
    (a_like_cells : PySem.W.nsIn K mainGlobals "like_cells" = some (some (.ref f_like_cellsA))) (l_like_cells : K.lookup f_like_cellsA = some ⟨oc_like_cells, od_like_cells, .func (PySem.W.fnOf "like_cells" "like_cells" (defArgs s_like_cells) (defBody s_like_cells) (defScope s_like_cells) .none kV_like_cells dc_like_cells pm_like_cells an_like_cells cd_like_cells ct_like_cells), sl_like_cells⟩) (c_like_cells : PySem.W.codeIn K cd_like_cells "like_cells" = true) (k_like_cells : PySem.W.keepIn K (.ref f_like_cellsA) = true)
    (a_law_board : PySem.W.nsIn K mainGlobals "_law_board" = some (some (.ref f_law_boardA))) (l_law_board : K.lookup f_law_boardA = some ⟨oc_law_board, od_law_board, .func (PySem.W.fnOf "_law_board" "_law_board" (defArgs s_law_board) (defBody s_law_board) (defScope s_law_board) .none kV_law_board dc_law_board pm_law_board an_law_board cd_law_board ct_law_board), sl_law_board⟩) (c_law_board : PySem.W.codeIn K cd_law_board "_law_board" = true) (k_law_board : PySem.W.keepIn K (.ref f_law_boardA) = true)
    (a_need_board : PySem.W.nsIn K mainGlobals "need_board" = some (some (.ref f_need_boardA))) (l_need_board : K.lookup f_need_boardA = some ⟨oc_need_board, od_need_board, .func (PySem.W.fnOf "need_board" "need_board" (defArgs s_need_board) (defBody s_need_board) (defScope s_need_board) .none kV_need_board dc_need_board pm_need_board an_need_board cd_need_board ct_need_board), sl_need_board⟩) (c_need_board : PySem.W.codeIn K cd_need_board "need_board" = true) (k_need_board : PySem.W.keepIn K (.ref f_need_boardA) = true)
    (a_steps_back : PySem.W.nsIn K mainGlobals "steps_back" = some (some (.ref f_steps_backA))) (l_steps_back : K.lookup f_steps_backA = some ⟨oc_steps_back, od_steps_back, .func (PySem.W.fnOf "steps_back" "steps_back" (defArgs s_steps_back) (defBody s_steps_back) (defScope s_steps_back) .none kV_steps_back dc_steps_back pm_steps_back an_steps_back cd_steps_back ct_steps_back), sl_steps_back⟩) (c_steps_back : PySem.W.codeIn K cd_steps_back "steps_back" = true) (k_steps_back : PySem.W.keepIn K (.ref f_steps_backA) = true)
    (a_cells : PySem.W.nsIn K mainGlobals "cells" = some (some (.ref f_cellsA))) (l_cells : K.lookup f_cellsA = some ⟨oc_cells, od_cells, .func (PySem.W.fnOf "cells" "cells" (defArgs s_cells) (defBody s_cells) (defScope s_cells) .none kV_cells dc_cells pm_cells an_cells cd_cells ct_cells), sl_cells⟩) (c_cells : PySem.W.codeIn K cd_cells "cells" = true) (k_cells : PySem.W.keepIn K (.ref f_cellsA) = true)
    (a_need_two_cells : PySem.W.nsIn K mainGlobals "need_two_cells" = some (some (.ref f_need_two_cellsA))) (l_need_two_cells : K.lookup f_need_two_cellsA = some ⟨oc_need_two_cells, od_need_two_cells, .func (PySem.W.fnOf "need_two_cells" "need_two_cells" (defArgs s_need_two_cells) (defBody s_need_two_cells) (defScope s_need_two_cells) .none kV_need_two_cells dc_need_two_cells pm_need_two_cells an_need_two_cells cd_need_two_cells ct_need_two_cells), sl_need_two_cells⟩) (c_need_two_cells : PySem.W.codeIn K cd_need_two_cells "need_two_cells" = true) (k_need_two_cells : PySem.W.keepIn K (.ref f_need_two_cellsA) = true)
    (a_patch_of : PySem.W.nsIn K mainGlobals "patch_of" = some (some (.ref f_patch_ofA))) (l_patch_of : K.lookup f_patch_ofA = some ⟨oc_patch_of, od_patch_of, .func (PySem.W.fnOf "patch_of" "patch_of" (defArgs s_patch_of) (defBody s_patch_of) (defScope s_patch_of) .none kV_patch_of dc_patch_of pm_patch_of an_patch_of cd_patch_of ct_patch_of), sl_patch_of⟩) (c_patch_of : PySem.W.codeIn K cd_patch_of "patch_of" = true) (k_patch_of : PySem.W.keepIn K (.ref f_patch_ofA) = true)
    (a_are_one : PySem.W.nsIn K mainGlobals "are_one" = some (some (.ref f_are_oneA))) (l_are_one : K.lookup f_are_oneA = some ⟨oc_are_one, od_are_one, .func (PySem.W.fnOf "are_one" "are_one" (defArgs s_are_one) (defBody s_are_one) (defScope s_are_one) .none kV_are_one dc_are_one pm_are_one an_are_one cd_are_one ct_are_one), sl_are_one⟩) (c_are_one : PySem.W.codeIn K cd_are_one "are_one" = true) (k_are_one : PySem.W.keepIn K (.ref f_are_oneA) = true)
    (a_way : PySem.W.nsIn K mainGlobals "way" = some (some (.ref f_wayA))) (l_way : K.lookup f_wayA = some ⟨oc_way, od_way, .func (PySem.W.fnOf "way" "way" (defArgs s_way) (defBody s_way) (defScope s_way) .none kV_way dc_way pm_way an_way cd_way ct_way), sl_way⟩) (c_way : PySem.W.codeIn K cd_way "way" = true) (k_way : PySem.W.keepIn K (.ref f_wayA) = true)
    (a_is_way : PySem.W.nsIn K mainGlobals "is_way" = some (some (.ref f_is_wayA))) (l_is_way : K.lookup f_is_wayA = some ⟨oc_is_way, od_is_way, .func (PySem.W.fnOf "is_way" "is_way" (defArgs s_is_way) (defBody s_is_way) (defScope s_is_way) .none kV_is_way dc_is_way pm_is_way an_is_way cd_is_way ct_is_way), sl_is_way⟩) (c_is_way : PySem.W.codeIn K cd_is_way "is_way" = true) (k_is_way : PySem.W.keepIn K (.ref f_is_wayA) = true)
    (a_is_fence : PySem.W.nsIn K mainGlobals "is_fence" = some (some (.ref f_is_fenceA))) (l_is_fence : K.lookup f_is_fenceA = some ⟨oc_is_fence, od_is_fence, .func (PySem.W.fnOf "is_fence" "is_fence" (defArgs s_is_fence) (defBody s_is_fence) (defScope s_is_fence) .none kV_is_fence dc_is_fence pm_is_fence an_is_fence cd_is_fence ct_is_fence), sl_is_fence⟩) (c_is_fence : PySem.W.codeIn K cd_is_fence "is_fence" = true) (k_is_fence : PySem.W.keepIn K (.ref f_is_fenceA) = true)
    (a_law_k21 : PySem.W.nsIn K mainGlobals "law" = some (some (.ref f_law_k21A))) (l_law_k21 : K.lookup f_law_k21A = some ⟨oc_law_k21, od_law_k21, .func (PySem.W.fnOf "law" "law" (defArgs s_law_k21) (defBody s_law_k21) (defScope s_law_k21) .none kV_law_k21 dc_law_k21 pm_law_k21 an_law_k21 cd_law_k21 ct_law_k21), sl_law_k21⟩) (c_law_k21 : PySem.W.codeIn K cd_law_k21 "law" = true) (k_law_k21 : PySem.W.keepIn K (.ref f_law_k21A) = true)
    (z_len : PySem.W.nsIn K mainGlobals "len" = some none)
    (z_isinstance : PySem.W.nsIn K mainGlobals "isinstance" = some none)
    (z_all : PySem.W.nsIn K mainGlobals "all" = some none)
    (z_abs : PySem.W.nsIn K mainGlobals "abs" = some none)
    (z_max : PySem.W.nsIn K mainGlobals "max" = some none)
    (z_min : PySem.W.nsIn K mainGlobals "min" = some none)
    (z_range : PySem.W.nsIn K mainGlobals "range" = some none)
    (z_str : PySem.W.nsIn K mainGlobals "str" = some none)
    (z_int : PySem.W.nsIn K mainGlobals "int" = some none)
    (z_bool : PySem.W.nsIn K mainGlobals "bool" = some none)
    (z_tuple : PySem.W.nsIn K mainGlobals "tuple" = some none)
    (z_list : PySem.W.nsIn K mainGlobals "list" = some none)
    (z_sorted : PySem.W.nsIn K mainGlobals "sorted" = some none)
    (y_LETTERS : PySem.W.nsIn K mainGlobals "LETTERS" = some (some (.str "abcdef" t_LETTERS)))
    (y_MOST_ROWS : PySem.W.nsIn K mainGlobals "MOST_ROWS" = some (some (.int 8 t_MOST_ROWS)))
    (y_MOST_COLUMNS : PySem.W.nsIn K mainGlobals "MOST_COLUMNS" = some (some (.int 8 t_MOST_COLUMNS))) :
    ∃ (cv : Nat → Value) (fd : FuncData), (∀ (s : Shared) (u : Value), BindsTo s fd ⟨[u], []⟩ [("_law_script", u)]) ∧ ∀ base : Heap, K.In base → base.Ns mainGlobals mg → FnOk P w K mg base (CX1 P w cv) 7 fa fd ["_law_script"] (spD K cv 1 f_law_k21) := by
  have ea := hfa.symm.trans (PySem.W.mg_of X G a_law_k21)
  cases ea
  refine ⟨fun _ => .none, PySem.W.fnOf "law" "law" (defArgs s_law_k21) (defBody s_law_k21) (defScope s_law_k21) .none kV_law_k21 dc_law_k21 pm_law_k21 an_law_k21 cd_law_k21 ct_law_k21, fun s v => .of_eq rfl, fun base KB GB => ?_⟩
  have B : Bl K mg base (fun _ => .none) (fun _ => mainGlobals) mainGlobals := ⟨PySem.W.mg_none_of X G z_len, PySem.W.mg_none_of X G z_isinstance, PySem.W.mg_none_of X G z_all, PySem.W.mg_none_of X G z_abs, PySem.W.mg_none_of X G z_max, PySem.W.mg_none_of X G z_min, PySem.W.mg_none_of X G z_range, PySem.W.mg_none_of X G z_str, PySem.W.mg_none_of X G z_int, PySem.W.mg_none_of X G z_bool, PySem.W.mg_none_of X G z_tuple, PySem.W.mg_none_of X G z_list, PySem.W.mg_none_of X G z_sorted, ⟨_, PySem.W.mg_of X G y_LETTERS⟩, ⟨_, PySem.W.mg_of X G y_MOST_ROWS⟩, ⟨_, PySem.W.mg_of X G y_MOST_COLUMNS⟩⟩
  have o_is_whole := ok_is_whole (P := P) (w := w) B  ⟨PySem.W.mg_of X G a_is_whole, _, fun_mk (st := s_is_whole) l_is_whole c_is_whole k_is_whole⟩
  have o_is_letter := ok_is_letter (P := P) (w := w) B  ⟨PySem.W.mg_of X G a_is_letter, _, fun_mk (st := s_is_letter) l_is_letter c_is_letter k_is_letter⟩
  have o_cells_of_row := ok_cells_of_row (P := P) (w := w) B  ⟨PySem.W.mg_of X G a_cells_of_row, _, fun_mk (st := s_cells_of_row) l_cells_of_row c_cells_of_row k_cells_of_row⟩
  have o_letter_of := ok_letter_of (P := P) (w := w) B  ⟨PySem.W.mg_of X G a_letter_of, _, fun_mk (st := s_letter_of) l_letter_of c_letter_of k_letter_of⟩
  have o_are_next := ok_are_next (P := P) (w := w) B  ⟨PySem.W.mg_of X G a_are_next, _, fun_mk (st := s_are_next) l_are_next c_are_next k_are_next⟩
  have o_keyed := ok_keyed (P := P) (w := w) B  ⟨PySem.W.mg_of X G a_keyed, _, fun_mk (st := s_keyed) l_keyed c_keyed k_keyed⟩
  have o_law_cell := ok_law_cell (P := P) (w := w) B  ⟨PySem.W.mg_of X G a_law_cell, _, fun_mk (st := s_law_cell) l_law_cell c_law_cell k_law_cell⟩
  have o_is_row := ok_is_row (P := P) (w := w) B o_is_letter ⟨PySem.W.mg_of X G a_is_row, _, fun_mk (st := s_is_row) l_is_row c_is_row k_is_row⟩
  have o_is_cell := ok_is_cell (P := P) (w := w) B o_is_whole ⟨PySem.W.mg_of X G a_is_cell, _, fun_mk (st := s_is_cell) l_is_cell c_is_cell k_is_cell⟩
  have o_need_ways := ok_need_ways (P := P) (w := w) B o_is_whole ⟨PySem.W.mg_of X G a_need_ways, _, fun_mk (st := s_need_ways) l_need_ways c_need_ways k_need_ways⟩
  have o_all_cells := ok_all_cells (P := P) (w := w) B o_cells_of_row ⟨PySem.W.mg_of X G a_all_cells, _, fun_mk (st := s_all_cells) l_all_cells c_all_cells k_all_cells⟩
  have o_next_cells := ok_next_cells (P := P) (w := w) B o_are_next ⟨PySem.W.mg_of X G a_next_cells, _, fun_mk (st := s_next_cells) l_next_cells c_next_cells k_next_cells⟩
  have o_law_drawn := ok_law_drawn (P := P) (w := w) B o_law_cell ⟨PySem.W.mg_of X G a_law_drawn, _, fun_mk (st := s_law_drawn) l_law_drawn c_law_drawn k_law_drawn⟩
  have o_is_board := ok_is_board (P := P) (w := w) B o_is_row ⟨PySem.W.mg_of X G a_is_board, _, fun_mk (st := s_is_board) l_is_board c_is_board k_is_board⟩
  have o_is_list_of_cells := ok_is_list_of_cells (P := P) (w := w) B o_is_cell ⟨PySem.W.mg_of X G a_is_list_of_cells, _, fun_mk (st := s_is_list_of_cells) l_is_list_of_cells c_is_list_of_cells k_is_list_of_cells⟩
  have o_need_cell := ok_need_cell (P := P) (w := w) B o_is_cell ⟨PySem.W.mg_of X G a_need_cell, _, fun_mk (st := s_need_cell) l_need_cell c_need_cell k_need_cell⟩
  have o_like_cells := ok_like_cells (P := P) (w := w) B o_letter_of o_next_cells ⟨PySem.W.mg_of X G a_like_cells, _, fun_mk (st := s_like_cells) l_like_cells c_like_cells k_like_cells⟩
  have o_law_board := ok_law_board (P := P) (w := w) B o_law_drawn ⟨PySem.W.mg_of X G a_law_board, _, fun_mk (st := s_law_board) l_law_board c_law_board k_law_board⟩
  have o_need_board := ok_need_board (P := P) (w := w) B o_is_board ⟨PySem.W.mg_of X G a_need_board, _, fun_mk (st := s_need_board) l_need_board c_need_board k_need_board⟩
  have o_steps_back := ok_steps_back (P := P) (w := w) B o_like_cells ⟨PySem.W.mg_of X G a_steps_back, _, fun_mk (st := s_steps_back) l_steps_back c_steps_back k_steps_back⟩
  have o_cells := ok_cells (P := P) (w := w) B o_need_board o_all_cells ⟨PySem.W.mg_of X G a_cells, _, fun_mk (st := s_cells) l_cells c_cells k_cells⟩
  have o_need_two_cells := ok_need_two_cells (P := P) (w := w) B o_need_board o_need_ways o_need_cell ⟨PySem.W.mg_of X G a_need_two_cells, _, fun_mk (st := s_need_two_cells) l_need_two_cells c_need_two_cells k_need_two_cells⟩
  have o_patch_of := ok_patch_of (P := P) (w := w) B o_need_board o_need_cell o_need_ways o_steps_back ⟨PySem.W.mg_of X G a_patch_of, _, fun_mk (st := s_patch_of) l_patch_of c_patch_of k_patch_of⟩
  have o_are_one := ok_are_one (P := P) (w := w) B o_need_two_cells o_steps_back ⟨PySem.W.mg_of X G a_are_one, _, fun_mk (st := s_are_one) l_are_one c_are_one k_are_one⟩
  have o_way := ok_way (P := P) (w := w) B o_need_two_cells o_steps_back ⟨PySem.W.mg_of X G a_way, _, fun_mk (st := s_way) l_way c_way k_way⟩
  have o_is_way := ok_is_way (P := P) (w := w) B o_need_two_cells o_letter_of o_is_list_of_cells o_are_next ⟨PySem.W.mg_of X G a_is_way, _, fun_mk (st := s_is_way) l_is_way c_is_way k_is_way⟩
  have o_is_fence := ok_is_fence (P := P) (w := w) B o_need_two_cells o_keyed o_is_list_of_cells o_like_cells ⟨PySem.W.mg_of X G a_is_fence, _, fun_mk (st := s_is_fence) l_is_fence c_is_fence k_is_fence⟩
  exact okF_law_k21 B o_law_board o_cells o_way o_patch_of o_is_fence o_law_drawn o_are_one o_is_way (fun_mk (st := s_law_k21) l_law_k21 c_law_k21 k_law_k21)
end K1
open PySem PySem.W PyProof.Rows
set_option maxHeartbeats 0 in
theorem PySem.Challenge.cw_cellpatches_k21_whole_ways_holds : PySem.Challenge.rw_cellpatches_k21_whole_ways.Holds := by
  w_on; o_law; k_head; (case hw => w_witness2)
  k_fill
  refine L3.walkD (l := PySem.Challenge.rw_cellpatches_k21_whole_ways) (k := 7) (n := 63) (x := "_law_script") (g := K1.f_law_k21) rfl (by decide) rfl ⟨rfl, by decide, by decide⟩ (fun w h Y => PySem.W.kIn_of Y) K1.law_true ?F
  case F =>
    intro w mg fa h KX G hmg
    refine' K1.all_mk KX G hmg ?a_is_whole ?l_is_whole ?c_is_whole ?k_is_whole ?a_is_letter ?l_is_letter ?c_is_letter ?k_is_letter ?a_cells_of_row ?l_cells_of_row ?c_cells_of_row ?k_cells_of_row ?a_letter_of ?l_letter_of ?c_letter_of ?k_letter_of ?a_are_next ?l_are_next ?c_are_next ?k_are_next ?a_keyed ?l_keyed ?c_keyed ?k_keyed ?a_law_cell ?l_law_cell ?c_law_cell ?k_law_cell ?a_is_row ?l_is_row ?c_is_row ?k_is_row ?a_is_cell ?l_is_cell ?c_is_cell ?k_is_cell ?a_need_ways ?l_need_ways ?c_need_ways ?k_need_ways ?a_all_cells ?l_all_cells ?c_all_cells ?k_all_cells ?a_next_cells ?l_next_cells ?c_next_cells ?k_next_cells ?a_law_drawn ?l_law_drawn ?c_law_drawn ?k_law_drawn ?a_is_board ?l_is_board ?c_is_board ?k_is_board ?a_is_list_of_cells ?l_is_list_of_cells ?c_is_list_of_cells ?k_is_list_of_cells ?a_need_cell ?l_need_cell ?c_need_cell ?k_need_cell ?a_like_cells ?l_like_cells ?c_like_cells ?k_like_cells ?a_law_board ?l_law_board ?c_law_board ?k_law_board ?a_need_board ?l_need_board ?c_need_board ?k_need_board ?a_steps_back ?l_steps_back ?c_steps_back ?k_steps_back ?a_cells ?l_cells ?c_cells ?k_cells ?a_need_two_cells ?l_need_two_cells ?c_need_two_cells ?k_need_two_cells ?a_patch_of ?l_patch_of ?c_patch_of ?k_patch_of ?a_are_one ?l_are_one ?c_are_one ?k_are_one ?a_way ?l_way ?c_way ?k_way ?a_is_way ?l_is_way ?c_is_way ?k_is_way ?a_is_fence ?l_is_fence ?c_is_fence ?k_is_fence ?a_law_k21 ?l_law_k21 ?c_law_k21 ?k_law_k21 ?z_len ?z_isinstance ?z_all ?z_abs ?z_max ?z_min ?z_range ?z_str ?z_int ?z_bool ?z_tuple ?z_list ?z_sorted ?y_LETTERS ?y_MOST_ROWS ?y_MOST_COLUMNS
    (case a_is_whole => k_is)
    (case l_is_whole => k_is)
    (case c_is_whole => k_is)
    (case k_is_whole => k_is)
    (case a_is_letter => k_is)
    (case l_is_letter => k_is)
    (case c_is_letter => k_is)
    (case k_is_letter => k_is)
    (case a_cells_of_row => k_is)
    (case l_cells_of_row => k_is)
    (case c_cells_of_row => k_is)
    (case k_cells_of_row => k_is)
    (case a_letter_of => k_is)
    (case l_letter_of => k_is)
    (case c_letter_of => k_is)
    (case k_letter_of => k_is)
    (case a_are_next => k_is)
    (case l_are_next => k_is)
    (case c_are_next => k_is)
    (case k_are_next => k_is)
    (case a_keyed => k_is)
    (case l_keyed => k_is)
    (case c_keyed => k_is)
    (case k_keyed => k_is)
    (case a_law_cell => k_is)
    (case l_law_cell => k_is)
    (case c_law_cell => k_is)
    (case k_law_cell => k_is)
    (case a_is_row => k_is)
    (case l_is_row => k_is)
    (case c_is_row => k_is)
    (case k_is_row => k_is)
    (case a_is_cell => k_is)
    (case l_is_cell => k_is)
    (case c_is_cell => k_is)
    (case k_is_cell => k_is)
    (case a_need_ways => k_is)
    (case l_need_ways => k_is)
    (case c_need_ways => k_is)
    (case k_need_ways => k_is)
    (case a_all_cells => k_is)
    (case l_all_cells => k_is)
    (case c_all_cells => k_is)
    (case k_all_cells => k_is)
    (case a_next_cells => k_is)
    (case l_next_cells => k_is)
    (case c_next_cells => k_is)
    (case k_next_cells => k_is)
    (case a_law_drawn => k_is)
    (case l_law_drawn => k_is)
    (case c_law_drawn => k_is)
    (case k_law_drawn => k_is)
    (case a_is_board => k_is)
    (case l_is_board => k_is)
    (case c_is_board => k_is)
    (case k_is_board => k_is)
    (case a_is_list_of_cells => k_is)
    (case l_is_list_of_cells => k_is)
    (case c_is_list_of_cells => k_is)
    (case k_is_list_of_cells => k_is)
    (case a_need_cell => k_is)
    (case l_need_cell => k_is)
    (case c_need_cell => k_is)
    (case k_need_cell => k_is)
    (case a_like_cells => k_is)
    (case l_like_cells => k_is)
    (case c_like_cells => k_is)
    (case k_like_cells => k_is)
    (case a_law_board => k_is)
    (case l_law_board => k_is)
    (case c_law_board => k_is)
    (case k_law_board => k_is)
    (case a_need_board => k_is)
    (case l_need_board => k_is)
    (case c_need_board => k_is)
    (case k_need_board => k_is)
    (case a_steps_back => k_is)
    (case l_steps_back => k_is)
    (case c_steps_back => k_is)
    (case k_steps_back => k_is)
    (case a_cells => k_is)
    (case l_cells => k_is)
    (case c_cells => k_is)
    (case k_cells => k_is)
    (case a_need_two_cells => k_is)
    (case l_need_two_cells => k_is)
    (case c_need_two_cells => k_is)
    (case k_need_two_cells => k_is)
    (case a_patch_of => k_is)
    (case l_patch_of => k_is)
    (case c_patch_of => k_is)
    (case k_patch_of => k_is)
    (case a_are_one => k_is)
    (case l_are_one => k_is)
    (case c_are_one => k_is)
    (case k_are_one => k_is)
    (case a_way => k_is)
    (case l_way => k_is)
    (case c_way => k_is)
    (case k_way => k_is)
    (case a_is_way => k_is)
    (case l_is_way => k_is)
    (case c_is_way => k_is)
    (case k_is_way => k_is)
    (case a_is_fence => k_is)
    (case l_is_fence => k_is)
    (case c_is_fence => k_is)
    (case k_is_fence => k_is)
    (case a_law_k21 => k_is)
    (case l_law_k21 => k_is)
    (case c_law_k21 => k_is)
    (case k_law_k21 => k_is)
    (case z_len => k_is)
    (case z_isinstance => k_is)
    (case z_all => k_is)
    (case z_abs => k_is)
    (case z_max => k_is)
    (case z_min => k_is)
    (case z_range => k_is)
    (case z_str => k_is)
    (case z_int => k_is)
    (case z_bool => k_is)
    (case z_tuple => k_is)
    (case z_list => k_is)
    (case z_sorted => k_is)
    (case y_LETTERS => k_is)
    (case y_MOST_ROWS => k_is)
    (case y_MOST_COLUMNS => k_is)

