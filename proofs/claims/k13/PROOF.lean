import PyProof.Rows.All
import Wide.All
import OpenK.AllK
import Wide.FinOn
import Lean
import PyProof.EqAt
import PyProof.EqKinds
import PyProof.TupleCall
import PySem.Challenge.RW_pacehall_k13_all_places
-- CHANGE: your row's module here, as the last of these rows
set_option Elab.async false
set_option linter.all false
set_option maxRecDepth 100000
/-! THE HAND LAYER, for ints, bools, texts, own classes, LISTS and tuples (index, slices, in, append, pop ..), calls, loops. Paste it whole ahead of your own text; what your proof does not reach may be deleted. -/
namespace L2
open PySem PySem.Spec PyProof.Rows

/-- a key: an int or a str -/
abbrev Key := Sum Int Str
def keyIs : Key → Value → Bool
  | .inl k, v => Value.isInt k v
  | .inr x, v => Value.isStrOf x v
def keyH (w : World) : Key → Int
  | .inl k => hashInt k
  | .inr x => hashStr w x
theorem keyIs_shape : ∀ {k : Key} {v : Value}, keyIs k v = true → (∃ i t, k = Sum.inl i ∧ v = Value.int i t) ∨ (∃ x t, k = Sum.inr x ∧ v = Value.str x t)
  | .inl i, v, h => by
    obtain ⟨t, e⟩ := Value.isInt_shape (k := i) (v := v) h
    exact .inl ⟨i, t, rfl, e⟩
  | .inr x, v, h => by
    obtain ⟨t, e⟩ := Value.isStrOf_shape (x := x) (v := v) h
    exact .inr ⟨x, t, rfl, e⟩
theorem key_ll (a b : Int) : decide ((Sum.inl a : Key) = Sum.inl b) = (a == b) := by
  by_cases e : a = b
  · subst e; simp
  · have h : ¬ (Sum.inl a : Key) = Sum.inl b := fun q => e (Sum.inl.inj q)
    rw [decide_eq_false h]
    exact (beq_eq_false_iff_ne.mpr e).symm
theorem key_rr (a b : Str) : decide ((Sum.inr a : Key) = Sum.inr b) = decide (a = b) := by
  by_cases e : a = b
  · subst e; simp
  · have h : ¬ (Sum.inr a : Key) = Sum.inr b := fun q => e (Sum.inr.inj q)
    rw [decide_eq_false h, decide_eq_false e]
theorem key_lr (a : Int) (b : Str) : decide ((Sum.inl a : Key) = Sum.inr b) = false := decide_eq_false (fun q => nomatch q)
theorem key_rl (a : Str) (b : Int) : decide ((Sum.inr a : Key) = Sum.inl b) = false := decide_eq_false (fun q => nomatch q)

def mixKind (prog : Program) (w : World) : PySem.KeyKind prog w Key where
  is := keyIs
  hash := keyH w
  inj := fun v a b ha hb => by
    rcases keyIs_shape ha with ⟨i, t, rfl, rfl⟩ | ⟨x, t, rfl, rfl⟩
    · rcases keyIs_shape hb with ⟨j, u, rfl, e⟩ | ⟨y, u, rfl, e⟩
      · injection e with e1 _; rw [e1]
      · exact nomatch e
    · rcases keyIs_shape hb with ⟨j, u, rfl, e⟩ | ⟨y, u, rfl, e⟩
      · exact nomatch e
      · injection e with e1 _; rw [e1]
  byValue := fun k v h => by
    rcases keyIs_shape h with ⟨i, t, rfl, rfl⟩ | ⟨x, t, rfl, rfl⟩ <;> rfl
  pyHash := fun hv h => by
    rcases keyIs_shape hv with ⟨i, t, rfl, rfl⟩ | ⟨x, t, rfl, rfl⟩
    · exact wpAny_pyHash_int h
    · exact wpAny_pyHash_str h
  eqBool := fun hu hv h => by
    rcases keyIs_shape hu with ⟨i, t, rfl, rfl⟩ | ⟨x, t, rfl, rfl⟩
    · rcases keyIs_shape hv with ⟨j, u, rfl, rfl⟩ | ⟨y, u, rfl, rfl⟩
      · rw [key_ll] at h; exact wpAny_eqBool_int h
      · rw [key_lr] at h; exact SeqAt.EqAt.int_str i t y u _ _ _ _ h
    · rcases keyIs_shape hv with ⟨j, u, rfl, rfl⟩ | ⟨y, u, rfl, rfl⟩
      · rw [key_rl] at h; exact SeqAt.EqAt.str_int x t j u _ _ _ _ h
      · rw [key_rr] at h; exact wpAny_eqBool_str h
  «strs» := fun k x t v h => by
    rcases keyIs_shape h with ⟨i, u, rfl, e⟩ | ⟨y, u, rfl, e⟩
    · exact nomatch e
    · injection e with e1 _
      subst e1
      cases v <;> rfl

end L2

namespace L2
open PySem PySem.Spec PyProof.Rows

/-- a value, without the heap -/
inductive V where
  | non | bl (b : Bool) | int (i : Int) | str (x : Str) | byt (b : Array UInt8) | flt (b : UInt64) | ref (a : Addr) | ty (n : String)
  deriving DecidableEq

def RelV : V → Value → Prop
  | .non, u => u = Value.none
  | .bl b, u => u = Value.bool b
  | .int i, u => ∃ t, u = Value.int i t
  | .str x, u => ∃ t, u = Value.str x t
  | .byt b, u => ∃ t, u = Value.bytes b t
  | .flt b, u => ∃ t, u = Value.float b t
  | .ref a, u => u = Value.ref a
  | .ty n, u => u = Value.type n

abbrev Vals : List V → List Value → Prop := Paired RelV
theorem Vals.length {xs : List V} {us : List Value} (r : Vals xs us) : xs.length = us.length := Paired.length r
theorem Vals.get : ∀ {xs : List V} {us : List Value} {i : Nat} {x : V}, Vals xs us → xs[i]? = some x → ∃ u, us[i]? = some u ∧ RelV x u
  | _, _, _, _, .nil, e => by simp at e
  | _, _, 0, _, .cons r _, e => by simp at e; subst e; exact ⟨_, rfl, r⟩
  | _, _, i + 1, x, .cons _ t, e => by
    obtain ⟨u, h1, h2⟩ := Vals.get (i := i) (x := x) t (by simpa using e)
    exact ⟨u, by simpa using h1, h2⟩
theorem Vals.set {x : V} {u : Value} (r : RelV x u) : ∀ {xs : List V} {us : List Value} (i : Nat), Vals xs us → Vals (xs.set i x) (us.set i u)
  | _, _, _, .nil => .nil
  | _, _, 0, .cons _ t => .cons r t
  | _, _, i + 1, .cons q t => .cons q (Vals.set r i t)
theorem Vals.append : ∀ {xs ys : List V} {us ws : List Value}, Vals xs us → Vals ys ws → Vals (xs ++ ys) (us ++ ws)
  | _, _, _, _, .nil, s => s
  | _, _, _, _, .cons r t, s => .cons r (Vals.append t s)
theorem Vals.take : ∀ {xs : List V} {us : List Value} (n : Nat), Vals xs us → Vals (xs.take n) (us.take n)
  | _, _, 0, _ => .nil
  | _, _, _ + 1, .nil => .nil
  | _, _, n + 1, .cons r t => .cons r (Vals.take n t)
theorem Vals.drop : ∀ {xs : List V} {us : List Value} (n : Nat), Vals xs us → Vals (xs.drop n) (us.drop n)
  | _, _, 0, r => r
  | _, _, _ + 1, .nil => .nil
  | _, _, n + 1, .cons _ t => Vals.drop n t
def RelO : Option V → Option Value → Prop
  | some v, some u => RelV v u
  | none, none => True
  | _, _ => False
def KV {κ : Type} : List (κ × V) → List (κ × Value) → Prop := Paired fun (p : κ × V) (q : κ × Value) => p.1 = q.1 ∧ RelV p.2 q.2

/-- a key of a dict (00_mix): an int or a text -/
def kV : Key → V
  | .inl i => .int i
  | .inr x => .str x

/-- what stands at a tracked address -/
inductive HO where
  /-- a list -/
  | lst (xs : List V)
  /-- a tuple (never changes) -/
  | tup (xs : List V)
  /-- a dict whose keys are ints and texts; one whose keys are tuples of ints and texts (the empty one is both) -/
  | dK (kvs : List (Key × V)) | dT (kvs : List (List Key × V))
  /-- a set of ints: its members, its size -/
  | set (S : Int → Bool) (n : Nat)
  /-- an instance of the class at C, its dict at dx, its attributes -/
  | ins (C dx : Addr) (fs : List (Str × V))
  /-- the dict of the instance at x -/
  | own (x : Addr)
  /-- the dict of an exception -/
  | xd (fs : List (Str × V))
  /-- a bound method, f of x -/
  | met (f x : Addr)
  /-- a range object lo, lo + 1, .. below hi -/
  | rng (lo hi : Int)
  /-- a thing that is known to the object (the script; a dict while a loop walks it): read, never written while it is so -/
  | frz (o : Obj) (u : HO)
  /-- a code object's table -/
  | tbl (ps : Array Value)
  /-- any other thing, by what is true of its one object (a def of one's own: SetO a S n := HO.ext fun h => ..) -/
  | ext (φ : Heap → Prop)

abbrev Hp := Addr → Option HO
def upd (H : Hp) (a : Addr) (o : HO) : Hp := fun b => if b = a then some o else H b
theorem upd_same {H : Hp} {a : Addr} {o : HO} : upd H a o a = some o := by unfold upd; rw [if_pos rfl]
theorem upd_ne {H : Hp} {a b : Addr} {o : HO} (h : b ≠ a) : upd H a o b = H b := by unfold upd; rw [if_neg h]
theorem upd_upd {H : Hp} {a : Addr} {o u : HO} : upd (upd H a o) a u = upd H a u := by
  funext b; unfold upd; split <;> rfl
theorem ne_of_none {H : Hp} {a b : Addr} {o : HO} (h : H a = some o) (h' : H b = none) : a ≠ b := by
  intro e; subst e; rw [h] at h'; cases h'

section
variable (P : Program) (w : World)
def ObjOk (H : Hp) (h : Heap) (a : Addr) : HO → Prop
  | .lst xs => xs.length ≤ sizeLine ∧ ∃ (its : List Value) (n : Nat), Vals xs its ∧ h.get? a = some { cls := .type "list", data := .seq its.toArray n }
  | .tup xs => xs.length ≤ sizeLine ∧ ∃ its : List Value, Vals xs its ∧ IsTup h a its.toArray
  | .dK kvs => kvs.length ≤ sizeLine ∧ (a == sysModules) = false ∧ ∃ vs, KV kvs vs ∧ h.DictOf (mixKind P w) a vs
  | .dT kvs => kvs.length ≤ sizeLine ∧ (a == sysModules) = false ∧ ∃ xs : List (List Key × Addr × Value),
      Paired (fun (p : List Key × V) (q : List Key × Addr × Value) => p.1 = q.1 ∧ H q.2.1 = some (.tup (p.1.map kV)) ∧ RelV p.2 q.2.2) kvs xs ∧
      ∃ o es ep, h.get? a = some o ∧ o.ExactDict ∧ o.data = .dict es ep ∧ es.toList = xs.map (entryOfKey (tupleKind (mixKind P w))) ∧ (xs.map (·.1)).Nodup
  | .set S n => h.SetOf (intKind P w) a S n
  | .ins C dx fs => H dx = some (.own a) ∧ fs.length ≤ 1000 ∧ dx ≠ a ∧ h.get? a = some (PySem.W.instObj C dx) ∧
      ∃ mA, h.Ns1 dx mA ∧ (∀ f, RelO (fs.lookup f) (mA f)) ∧ PySem.Within mA (fs.map (·.1))
  | .own _ => ∃ o, h.get? a = some o
  | .xd fs => ∃ mA, h.Ns1 a mA ∧ ∀ f, RelO (fs.lookup f) (mA f)
  | .rng lo hi => ∃ t u v, h.get? a = some { cls := .type "range", data := .fields #[.int lo t, .int hi u, .int 1 v] }
  | .frz o u => h.get? a = some o ∧ ObjOk H h a u
  | .tbl ps => h.get? a = some { cls := .none, data := .fields ps }
  | .met f x => h.get? a = some (PySem.W.methodObj (.ref f) (.ref x))
  | .ext φ => φ h ∧ (∃ o, h.get? a = some o) ∧ ∀ h1 h2 : Heap, φ h1 → (∀ o, h1.get? a = some o → h2.get? a = some o) → φ h2
/-- the abstract heap is held -/
def HOk (H : Hp) (h : Heap) : Prop := ∀ a o, H a = some o → ObjOk P w H h a o
end

section
variable {P : Program} {w : World} {H H' : Hp} {h h' : Heap} {a : Addr} {o : HO}
theorem ObjOk.lt (x : ObjOk P w H h a o) : a < h.objs.size := by
  cases o with
  | lst xs => obtain ⟨_, _, _, _, e⟩ := x; exact Heap.lt_size e
  | tup xs => obtain ⟨_, _, _, p⟩ := x; exact p.lt
  | dK kvs => obtain ⟨_, _, _, _, o, _, _, e, _⟩ := x; exact Heap.lt_size e
  | dT kvs => obtain ⟨_, _, _, _, o, _, _, e, _⟩ := x; exact Heap.lt_size e
  | set S n => obtain ⟨o, _, _, _, e, _⟩ := x; exact Heap.lt_size e
  | ins C dx fs => obtain ⟨_, _, _, e, _⟩ := x; exact Heap.lt_size e
  | own y => obtain ⟨_, e⟩ := x; exact Heap.lt_size e
  | xd fs => obtain ⟨_, ⟨_, _, _, e, _⟩, _⟩ := x; exact Heap.lt_size e
  | rng lo hi => obtain ⟨_, _, _, e⟩ := x; exact Heap.lt_size e
  | frz ob u => obtain ⟨e, _⟩ := x; exact Heap.lt_size e
  | tbl ps => exact Heap.lt_size (show h.get? a = some _ from x)
  | met f y => exact Heap.lt_size (show h.get? a = some _ from x)
  | ext φ => obtain ⟨_, ⟨_, e⟩, _⟩ := x; exact Heap.lt_size e
theorem Paired.mapP {α β : Type} {F G : α → β → Prop} : ∀ {l₁ : List α} {l₂ : List β}, Paired F l₁ l₂ → (∀ a b, F a b → G a b) → Paired G l₁ l₂
  | _, _, .nil, _ => .nil
  | _, _, .cons r t, f => .cons (f _ _ r) (Paired.mapP t f)
/-- what an object's description leans on: its own object, its own dict, the tuples -/
theorem ObjOk.stay (x : ObjOk P w H h a o) (k : ∀ b u, (b = a ∨ H b = some (.own a)) → h.get? b = some u → h'.get? b = some u)
    (ho : ∀ b, H b = some (.own a) → H' b = some (.own a)) (ht : ∀ b xs, H b = some (.tup xs) → H' b = some (.tup xs)) : ObjOk P w H' h' a o := by
  induction o with
  | lst xs => obtain ⟨z, its, n, r, e⟩ := x; exact ⟨z, its, n, r, k _ _ (.inl rfl) e⟩
  | tup xs => obtain ⟨z, its, r, ob, e, c⟩ := x; exact ⟨z, its, r, ob, k _ _ (.inl rfl) e, c⟩
  | dK kvs => obtain ⟨z, y, vs, r, ob, es, ep, e, c⟩ := x; exact ⟨z, y, vs, r, ob, es, ep, k _ _ (.inl rfl) e, c⟩
  | dT kvs =>
    obtain ⟨z, y, xs, r, ob, es, ep, e, c⟩ := x
    exact ⟨z, y, xs, Paired.mapP r fun p q z => ⟨z.1, ht _ _ z.2.1, z.2.2⟩, ob, es, ep, k _ _ (.inl rfl) e, c⟩
  | set S n => obtain ⟨ob, es, ep, t, e, c⟩ := x; exact ⟨ob, es, ep, t, k _ _ (.inl rfl) e, c⟩
  | ins C dx fs =>
    obtain ⟨d, z, ne, e, mA, ⟨od, es, ep, e2, c⟩, r⟩ := x
    exact ⟨ho _ d, z, ne, k _ _ (.inl rfl) e, mA, ⟨od, es, ep, k _ _ (.inr d) e2, c⟩, r⟩
  | own y => obtain ⟨ob, e⟩ := x; exact ⟨ob, k _ _ (.inl rfl) e⟩
  | xd fs => obtain ⟨mA, ⟨od, es, ep, e, c⟩, r⟩ := x; exact ⟨mA, ⟨od, es, ep, k _ _ (.inl rfl) e, c⟩, r⟩
  | rng lo hi => obtain ⟨t, u, v, e⟩ := x; exact ⟨t, u, v, k _ _ (.inl rfl) e⟩
  | frz ob u ih => obtain ⟨e, q⟩ := x; exact ⟨k _ _ (.inl rfl) e, ih q⟩
  | tbl ps =>
    have e : h.get? a = some { cls := .none, data := .fields ps } := x
    show h'.get? a = some { cls := .none, data := .fields ps }
    exact k a _ (.inl rfl) e
  | met f y =>
    have e : h.get? a = some (PySem.W.methodObj (.ref f) (.ref y)) := x
    show h'.get? a = some (PySem.W.methodObj (.ref f) (.ref y))
    exact k a _ (.inl rfl) e
  | ext φ => obtain ⟨p, ⟨o, e⟩, st⟩ := x; exact ⟨st _ _ p fun o q => k _ _ (.inl rfl) q, ⟨o, k _ _ (.inl rfl) e⟩, st⟩
theorem HOk.lt (x : HOk P w H h) (e : H a = some o) : a < h.objs.size := (x a o e).lt
theorem HOk.fresh (x : HOk P w H h) (e : h.objs.size ≤ a) : H a = none := by
  cases q : H a with
  | none => rfl
  | some u => exact absurd (Nat.lt_of_lt_of_le (x.lt q) e) (Nat.lt_irrefl _)
/-- every object of the heap is kept -/
theorem HOk.kept (x : HOk P w H h) (k : ∀ b u, h.get? b = some u → h'.get? b = some u) : HOk P w H h' := fun a o e =>
  (x a o e).stay (fun b u _ q => k b u q) (fun _ q => q) fun _ _ q => q
/-- a new object is laid and tracked -/
theorem HOk.laid (x : HOk P w H h) (k : ∀ b u, h.get? b = some u → h'.get? b = some u) (hp : h.objs.size ≤ a) (new : ObjOk P w (upd H a o) h' a o) : HOk P w (upd H a o) h' := fun b u e => by
  have hn := x.fresh hp
  by_cases hb : b = a
  · subst hb; rw [upd_same] at e; cases e; exact new
  · rw [upd_ne hb] at e
    exact (x b u e).stay (fun c v _ q => k c v q) (fun c q => by rw [upd_ne (ne_of_none q hn)]; exact q) fun c xs q => by rw [upd_ne (ne_of_none q hn)]; exact q
end

/-- what may be read as u: it is u, or a known u -/
def Rd (H : Hp) (a : Addr) (u : HO) : Prop := H a = some u ∨ ∃ o, H a = some (.frz o u)
theorem Rd.of {H : Hp} {a : Addr} {u : HO} (h : H a = some u) : Rd H a u := .inl h
theorem Rd.ok {P : Program} {w : World} {H : Hp} {h : Heap} {a : Addr} {u : HO} (r : Rd H a u) (x : HOk P w H h) : ObjOk P w H h a u := by
  rcases r with r | ⟨o, r⟩
  · exact x a u r
  · obtain ⟨_, q⟩ := x a _ r
    exact q
/-- what may be written -/
def Mut : Option HO → Prop
  | some (.lst _) => True
  | some (.dK _) => True
  | some (.dT _) => True
  | some (.set _ _) => True
  | some (.ins _ _ _) => True
  | some (.ext _) => True
  | _ => False
section
variable {P : Program} {w : World} {H : Hp} {h h' : Heap} {x e : Addr} {o' : HO}
/-- the object at e is changed: x itself, or the dict of the instance x -/
theorem HOk.write (ok : HOk P w H h) (mu : Mut (H x)) (he : e = x ∨ H e = some (.own x)) (k : ∀ b u, b ≠ e → h.get? b = some u → h'.get? b = some u) (heo : ∃ u, h'.get? e = some u)
    (new : ObjOk P w (upd H x o') h' x o') : HOk P w (upd H x o') h' := fun b u q => by
  have nown : ∀ c y, H c = some (.own y) → c ≠ x := fun c y r z => by subst z; rw [r] at mu; exact mu
  have ntup : ∀ c xs, H c = some (.tup xs) → c ≠ x := fun c xs r z => by subst z; rw [r] at mu; exact mu
  by_cases hb : b = x
  · subst hb; rw [upd_same] at q; cases q; exact new
  · rw [upd_ne hb] at q
    by_cases hbe : b = e
    · have q' : H b = some (.own x) := by
        rcases he with z | z
        · exact absurd (hbe.trans z) hb
        · rw [hbe]; exact z
      rw [q] at q'; cases q'
      obtain ⟨v, hv⟩ := heo
      exact ⟨v, by rw [hbe]; exact hv⟩
    · refine (ok b u q).stay (fun c v hc r => k c v ?_ r) (fun c r => by rw [upd_ne (nown c b r)]; exact r) fun c xs r => by rw [upd_ne (ntup c xs r)]; exact r
      rcases hc with rfl | hc
      · exact hbe
      · rintro rfl
        rcases he with z | z
        · exact nown c b hc z
        · rw [hc] at z; cases z; exact hb rfl
end

/-! ### kept unless tracked; of the frames at fs (the callers') the slots may change (an exception that passes writes there); of the records at ex (iterators) nothing is said -/
structure Un (fs ex : List Addr) (H H' : Hp) (h h' : Heap) : Prop where
  keep : ∀ b o, h.get? b = some o → H b = none → b ∉ fs → b ∉ ex → h'.get? b = some o
  slot : ∀ b o, h.get? b = some o → H b = none → b ∈ fs → b ∉ ex → ∃ sl, h'.get? b = some { o with slots := sl }
  free : ∀ b o, h.get? b = some o → H b = none → b ∉ ex → H' b = none
  there : ∀ b o, h.get? b = some o → b ∉ ex → ∃ o', h'.get? b = some o'
  tups : ∀ b xs, H b = some (.tup xs) → H' b = some (.tup xs)
  frzs : ∀ b o u, H b = some (.frz o u) → H' b = some (.frz o u)
  tbls : ∀ b ps, H b = some (.tbl ps) → ∃ more, H' b = some (.tbl (ps ++ more))
section
variable {fs fs' ex ex' : List Addr} {H H1 H2 : Hp} {h h1 h2 h' : Heap} {a x e : Addr} {o : HO}
theorem Un.any (u : Un fs ex H H1 h h1) {b : Addr} {ob : Obj} (q : h.get? b = some ob) (n : H b = none) (hx : b ∉ ex) : ∃ sl, h1.get? b = some { ob with slots := sl } := by
  by_cases hb : b ∈ fs
  · exact u.slot b ob q n hb hx
  · exact ⟨ob.slots, u.keep b ob q n hb hx⟩
theorem Un.trans (a : Un fs ex H H1 h h1) (b : Un fs ex H1 H2 h1 h2) : Un fs ex H H2 h h2 where
  keep := fun c ob q n hc hx => b.keep c ob (a.keep c ob q n hc hx) (a.free c ob q n hx) hc hx
  slot := fun c ob q n hc hx => by
    obtain ⟨sl, e1⟩ := a.slot c ob q n hc hx
    obtain ⟨sl', e2⟩ := b.slot c _ e1 (a.free c ob q n hx) hc hx
    exact ⟨sl', e2⟩
  free := fun c ob q n hx => by
    obtain ⟨o', e1⟩ := a.there c ob q hx
    exact b.free c o' e1 (a.free c ob q n hx) hx
  there := fun c ob q hx => by
    obtain ⟨o', e1⟩ := a.there c ob q hx
    exact b.there c o' e1 hx
  tups := fun c xs q => b.tups c xs (a.tups c xs q)
  frzs := fun c ob xs q => b.frzs c ob xs (a.frzs c ob xs q)
  tbls := fun c ps q => by
    obtain ⟨m1, e1⟩ := a.tbls c ps q
    obtain ⟨m2, e2⟩ := b.tbls c _ e1
    exact ⟨m1 ++ m2, by rw [e2, Array.append_assoc]⟩
theorem Un.kept (k : ∀ b u, h.get? b = some u → h'.get? b = some u) : Un fs ex H H h h' :=
  ⟨fun b ob q _ _ _ => k b ob q, fun b ob q _ _ _ => ⟨ob.slots, k b ob q⟩, fun _ _ _ n _ => n, fun b ob q _ => ⟨ob, k b ob q⟩, fun _ _ q => q, fun _ _ _ q => q, fun _ ps q => ⟨#[], by rw [q]; simp⟩⟩
theorem Un.refl : Un fs ex H H h h := Un.kept fun _ _ q => q
theorem Un.laid (k : ∀ b u, h.get? b = some u → h'.get? b = some u) (hp : h.objs.size ≤ a) (hn : H a = none) : Un fs ex H (upd H a o) h h' where
  keep := fun b u q _ _ _ => k b u q
  slot := fun b u q _ _ _ => ⟨u.slots, k b u q⟩
  free := fun b u q n _ => by rw [upd_ne (Nat.ne_of_lt (Nat.lt_of_lt_of_le (Heap.lt_size q) hp))]; exact n
  there := fun b u q _ => ⟨u, k b u q⟩
  tups := fun b xs q => by rw [upd_ne (ne_of_none q hn)]; exact q
  frzs := fun b u xs q => by rw [upd_ne (ne_of_none q hn)]; exact q
  tbls := fun b ps q => ⟨#[], by rw [upd_ne (ne_of_none q hn), q]; simp⟩
theorem Un.write (mu : Mut (H x)) (he : e = x ∨ H e = some (.own x)) (k : ∀ b u, b ≠ e → h.get? b = some u → h'.get? b = some u) (heo : ∃ u, h'.get? e = some u) : Un fs ex H (upd H x o) h h' := by
  have hx : ∀ b, H b = none → b ≠ x := fun b n z => by subst z; rw [n] at mu; exact mu
  have hb : ∀ b, H b = none → b ≠ e := fun b n z => by
    subst z
    rcases he with r | r
    · exact hx b n r
    · rw [n] at r; cases r
  have hm : ∀ b u, H b = some u → ¬ Mut (some u) → b ≠ x := fun b u q nm z => by subst z; rw [q] at mu; exact nm mu
  refine ⟨fun b u q n _ _ => k b u (hb b n) q, fun b u q n _ _ => ⟨u.slots, k b u (hb b n) q⟩, fun b u q n _ => by rw [upd_ne (hx b n)]; exact n, fun b u q _ => ?_,
    fun b xs q => by rw [upd_ne (hm b _ q fun z => z)]; exact q, fun b u xs q => by rw [upd_ne (hm b _ q fun z => z)]; exact q, fun b ps q => ⟨#[], by rw [upd_ne (hm b _ q fun z => z), q]; simp⟩⟩
  by_cases hbe : b = e
  · subst hbe; exact heo
  · exact ⟨u, k b u hbe q⟩
theorem Un.mono (u : Un fs ex H H1 h h1) (hs : ∀ b ∈ fs, b ∈ fs') (hx : ∀ b ∈ ex, b ∈ ex') : Un fs' ex' H H1 h h1 :=
  ⟨fun b ob q n hb he => u.keep b ob q n (fun z => hb (hs b z)) fun z => he (hx b z), fun _ _ q n _ he => u.any q n fun z => he (hx _ z), fun b ob q n he => u.free b ob q n fun z => he (hx b z), fun b ob q he => u.there b ob q fun z => he (hx b z), u.tups, u.frzs, u.tbls⟩
end

/-! ### the heap without what is tracked -/
def trk (h : Heap) (H : Hp) : List Addr := (List.range h.objs.size).filter fun a => (H a).isSome
def hidT (h : Heap) (H : Hp) : Heap := PySem.W.hideAll h (trk h H)
theorem hidT_size (h : Heap) (H : Hp) : (hidT h H).objs.size = h.objs.size := PySem.W.hideAll_size _ _
theorem hidT_get {h : Heap} {H : Hp} {b : Addr} {o : Obj} (e : h.get? b = some o) (n : H b = none) : (hidT h H).get? b = some o :=
  PySem.W.hideAll_get _ e fun hm => by
    have q : (H b).isSome = true := (List.mem_filter.mp hm).2
    rw [n] at q; simp at q
theorem of_hidT {h : Heap} {H : Hp} {b : Addr} {o : Obj} (e : (hidT h H).get? b = some o) : h.get? b = some o ∧ H b = none := by
  have e' : h.get? b = some o := PySem.W.of_hideAll (trk h H) e
  refine ⟨e', ?_⟩
  cases q : H b with
  | none => rfl
  | some x =>
    have hm : b ∈ trk h H := List.mem_filter.mpr ⟨List.mem_range.mpr (Heap.lt_size e'), by simp [q]⟩
    have z : (hidT h H).get? b = none := PySem.W.hideAll_none (trk h H) hm
    rw [z] at e; cases e

/-! ### OpenK's ledger, filled with every new object but one -/
def allNews (g h : Heap) (L : Addr) : List (Addr × Obj) := (List.range h.objs.size).filterMap fun a => if a = L ∨ (g.get? a).isSome = true then none else (h.get? a).map fun o => (a, o)
def rest (g h : Heap) (L d : Addr) : List (Addr × Obj) := (allNews g h L).filter fun p => decide (p.1 ≠ d)
end L2

namespace L2
open PySem PySem.Spec PyProof.Rows

/-- the module's facts, over the base: the heap at the law's entry without what is tracked there -/
structure Mod (K : PySem.W.Frag) (mg : Str → Option Value) (base : Heap) : Prop where
  kin : K.In base
  glob : base.Ns mainGlobals mg
  blt : ∃ mb, base.Ns builtinsNs mb ∧ ∀ x : Str, x ≠ "__name__" → mb x = bootBuiltins x
  nolimit : base.NoLimit

/-- the context: a def's body (or a comprehension's block) running. base: fixed through the whole law; s₀, H₀: the entry; outer: the frames whose slots others may change (a def's callers); stack: all frames that run;
   ex: iterators that were made ahead of the entry and are walked here (a comprehension's); fn: the names whose cells were made at the entry (a def: all; a comprehension's block: its own); calm: not within an except suite; pn: pins that every state bears; xe: what is wanted of an exception that leaves the code -/
structure Cx where
  prog : Program
  w : World
  K : PySem.W.Frag
  mg : Str → Option Value
  base : Heap
  A : Around
  N : List Str
  s₀ : Shared
  H₀ : Hp
  env : Env
  outer : List Env
  stack : List Env
  ex : List Addr
  fn : Str → Bool
  calm : Bool
  pn : List (Addr × Obj)
  xe : Value → Shared → Prop
/-- the callers' frames -/
def frs (l : List Env) : List Addr := l.filterMap (·.frame)
abbrev Cx.fs (X : Cx) : List Addr := frs X.outer

def Vis (sc : Scope) (x : Str) : Prop := sc.names.lookup x = some .local ∨ sc.names.lookup x = some .cell ∨ sc.names.lookup x = some .free
def Loc (sc : Scope) (x : Str) : Prop := sc.names.lookup x = some .local ∨ sc.names.lookup x = some .cell
def Look (env : Env) (h : Heap) (m : Str → Option Value) (x : Str) (u : Value) : Prop :=
  (env.kindOf x = some .local ∧ m x = some u) ∨ ((env.kindOf x = some .cell ∨ env.kindOf x = some .free) ∧ ∃ c, env.cells.lookup x = some c ∧ h.IsCell c (some u))

structure Cx.Ok (X : Cx) : Prop where
  mod : Mod X.K X.mg X.base
  kind : X.env.scope.kind = .function
  glob : X.env.globals = mainGlobals
  blt : X.env.builtins = builtinsNs
  above : X.s₀.heap.objs.size ≤ X.env.locals
  inj : ∀ x y c, X.env.cells.lookup x = some c → X.env.cells.lookup y = some c → x = y
  has : ∀ x, (X.env.kindOf x = some .cell ∨ X.env.kindOf x = some .free) → ∃ c, X.env.cells.lookup x = some c
  cab : ∀ x c, X.fn x = true → X.env.cells.lookup x = some c → X.s₀.heap.objs.size ≤ c
  hd : X.calm = true → X.A.handled = none
  frames : X.A.frames = some X.stack
  stk : X.stack = X.outer ∨ (X.stack = X.env :: X.outer ∧ X.env.frame = some X.env.locals)
  exf : ∀ b ∈ X.ex, b ≠ X.env.locals ∧ ∀ x c, X.env.cells.lookup x = some c → c ≠ b
  bs : ∀ b o, X.base.get? b = some o → X.s₀.heap.get? b = some o ∧ X.H₀ b = none
  bsz : X.base.objs.size ≤ X.s₀.heap.objs.size
  noex : ∀ b o, X.base.get? b = some o → b ∉ X.ex
  exfs : ∀ b ∈ X.ex, b ∉ X.fs
  funs : X.s₀.heap.FunFrames X.base X.outer
  frf : ∀ b ∈ X.fs, X.H₀ b = none

structure Inv (X : Cx) (pins : List (Addr × Obj)) (σ : List (Option V)) (H : Hp) (s : Shared) : Prop where
  ok : X.Ok
  os : s.os = X.s₀.os
  bare : AllBare s.gens
  base : Un X.fs X.ex X.H₀ H X.s₀.heap s.heap
  loc : ∃ m, s.heap.Ns X.env.locals m ∧ ∀ (i : Nat) (x : Str) (v : V), X.N[i]? = some x → σ[i]? = some (some v) → Vis X.env.scope x → ∃ u, RelV v u ∧ Look X.env s.heap m x u
  cell : ∀ x c, X.env.cells.lookup x = some c → ∃ v, s.heap.IsCell c v
  free : H X.env.locals = none
  freeC : ∀ x c, X.env.cells.lookup x = some c → H c = none
  pin : ∀ p ∈ X.pn ++ pins, s.heap.get? p.1 = some p.2 ∧ H p.1 = none ∧ p.1 ≠ X.env.locals ∧ p.1 ∉ X.fs ∧ ∀ v, p.2.data ≠ .cell v
  hok : HOk X.prog X.w H s.heap
  len : σ.length = X.N.length

section
variable {X : Cx} {pins : List (Addr × Obj)} {σ : List (Option V)} {H H' : Hp} {s : Shared} {h' : Heap}

theorem Cx.Ok.nofr (ok : X.Ok) {b : Addr} {o : Obj} (e : X.base.get? b = some o) : b ∉ X.fs := fun hb => by
  have := (ok.funs.mem hb).1
  rw [e] at this; cases this
theorem Inv.bs (I : Inv X pins σ H s) : ∀ b o, X.base.get? b = some o → s.heap.get? b = some o ∧ H b = none := fun b o e =>
  ⟨I.base.keep b o (I.ok.bs b o e).1 (I.ok.bs b o e).2 (I.ok.nofr e) (I.ok.noex b o e), I.base.free b o (I.ok.bs b o e).1 (I.ok.bs b o e).2 (I.ok.noex b o e)⟩
theorem Inv.bk (I : Inv X pins σ H s) : ∀ b o, X.base.get? b = some o → s.heap.get? b = some o := fun b o e => (I.bs b o e).1
theorem Inv.mod (I : Inv X pins σ H s) : Mod X.K X.mg X.base := I.ok.mod
theorem Inv.kIn (I : Inv X pins σ H s) : X.K.In s.heap := I.ok.mod.kin.keeps I.bk
theorem Inv.nolimit (I : Inv X pins σ H s) : s.heap.NoLimit := I.ok.mod.nolimit.keeps I.bk
/-- the frame over the base: for OpenK's rules (K.In X.base is I.mod.kin) -/
theorem Inv.fr (I : Inv X pins σ H s) : ∃ m, Fr X.base X.env.locals s.heap m :=
  let ⟨m, hn, _⟩ := I.loc
  ⟨m, hn, I.bk, Nat.le_trans I.ok.bsz I.ok.above⟩
theorem Inv.lt (I : Inv X pins σ H s) : X.env.locals < s.heap.objs.size := let ⟨_, hn, _⟩ := I.loc; hn.lt
theorem Inv.sz (I : Inv X pins σ H s) : X.s₀.heap.objs.size ≤ s.heap.objs.size := Nat.le_trans I.ok.above (Nat.le_of_lt I.lt)
theorem Inv.nofs (I : Inv X pins σ H s) {a : Addr} (h : s.heap.objs.size ≤ a) : a ∉ X.fs := fun hb => by
  obtain ⟨_, o, ho, _⟩ := I.ok.funs.mem hb
  exact absurd (Nat.lt_of_lt_of_le (Heap.lt_size ho) (Nat.le_trans I.sz h)) (Nat.lt_irrefl _)
theorem Inv.cne (I : Inv X pins σ H s) : ∀ x c, X.env.cells.lookup x = some c → c ≠ X.env.locals := fun x c e z => by
  obtain ⟨v, o, ho, hd⟩ := I.cell x c e
  obtain ⟨m, ⟨o', es, ep, ho', hd', _⟩, _⟩ := I.loc
  rw [z, ho'] at ho; cases ho; rw [hd'] at hd; cases hd
theorem Inv.funs (I : Inv X pins σ H s) : s.heap.FunFrames X.base X.outer := by
  have all : ∀ (l : List Env), (∀ b ∈ frs l, b ∈ X.fs) → X.s₀.heap.FunFrames X.base l → s.heap.FunFrames X.base l := by
    intro l
    induction l with
    | nil => intro _ _; trivial
    | cons env r ih =>
      intro hs hl
      obtain ⟨hk, ⟨L, o, hf, hn, ho, hd⟩, hr⟩ := hl
      have hL : L ∈ X.fs := hs L (by unfold frs; rw [List.filterMap_cons, hf]; exact List.mem_cons_self)
      obtain ⟨sl, e⟩ := I.base.slot L o ho (I.ok.frf L hL) hL fun z => I.ok.exfs L z hL
      exact ⟨hk, ⟨L, _, hf, hn, e, hd⟩, ih (fun b hb => hs b (by unfold frs; rw [List.filterMap_cons, hf]; exact List.mem_cons_of_mem _ hb)) hr⟩
  exact all X.outer (fun _ hb => hb) I.ok.funs

/-- the frames that run, for a call -/
theorem Inv.stack (I : Inv X pins σ H s) : s.heap.FunFrames X.base X.stack := by
  rcases I.ok.stk with e | ⟨e, hf⟩
  · rw [e]; exact I.funs
  · rw [e]
    obtain ⟨m, hn, _⟩ := I.loc
    refine .cons (by rw [I.ok.kind]; decide) hf hn ?_ I.funs
    exact Heap.get?_none_of_le (Nat.le_trans I.ok.bsz I.ok.above)
theorem Inv.stkSub (I : Inv X pins σ H s) : ∀ b ∈ frs X.stack, b ∈ X.env.locals :: X.fs := fun b hb => by
  rcases I.ok.stk with e | ⟨e, hf⟩
  · rw [e] at hb; exact List.mem_cons_of_mem _ hb
  · rw [e] at hb
    unfold frs at hb
    rw [List.filterMap_cons, hf] at hb
    exact hb
theorem Inv.stkFree (I : Inv X pins σ H s) : ∀ b ∈ frs X.stack, H b = none := fun b hb => by
  rcases List.mem_cons.mp (I.stkSub b hb) with e | hb
  · rw [e]; exact I.free
  · obtain ⟨_, o, ho, _⟩ := I.ok.funs.mem hb
    exact I.base.free b o ho (I.ok.frf b hb) fun z => I.ok.exfs b z hb

/-- THE STEP: the untracked objects but the frame and the records at ch are kept (the callers' frames up to slots), the frame's map is kept, the new abstract heap is held -/
theorem Inv.step {g' : Array GenState} {t' : Nat} {d' : Drawn} {ch : List Addr} (I : Inv X pins σ H s)
    (hch : ∀ b ∈ ch, (b ∈ X.ex ∨ X.s₀.heap.objs.size ≤ b) ∧ b ≠ X.env.locals ∧ (∀ x c, X.env.cells.lookup x = some c → c ≠ b) ∧ ∀ p ∈ X.pn ++ pins, p.1 ≠ b)
    (keep : ∀ b o, b ≠ X.env.locals → b ∉ X.fs → b ∉ ch → s.heap.get? b = some o → H b = none → h'.get? b = some o)
    (slot : ∀ b o, b ≠ X.env.locals → b ∈ X.fs → b ∉ ch → s.heap.get? b = some o → H b = none → ∃ sl, h'.get? b = some { o with slots := sl }) (free : ∀ b o, b ∉ ch → s.heap.get? b = some o → H b = none → H' b = none)
    (there : ∀ b o, b ∉ ch → s.heap.get? b = some o → ∃ o', h'.get? b = some o')
    (tups : ∀ b xs, H b = some (.tup xs) → H' b = some (.tup xs)) (frzs : ∀ b o u, H b = some (.frz o u) → H' b = some (.frz o u)) (tbls : ∀ b ps, H b = some (.tbl ps) → ∃ more, H' b = some (.tbl (ps ++ more)))
    (ns : ∀ m, s.heap.Ns X.env.locals m → h'.Ns X.env.locals m) (hok : HOk X.prog X.w H' h') (hg : AllBare g') :
    Inv X pins σ H' { s with heap := h', gens := g', drawn := d', toks := t' } := by
  have neL : ∀ b o, X.s₀.heap.get? b = some o → b ≠ X.env.locals := fun b o e => Nat.ne_of_lt (Nat.lt_of_lt_of_le (Heap.lt_size e) I.ok.above)
  have neC : ∀ b o, X.s₀.heap.get? b = some o → b ∉ X.ex → b ∉ ch := fun b o e hx hb => by
    rcases (hch b hb).1 with z | z
    · exact hx z
    · exact absurd (Nat.lt_of_lt_of_le (Heap.lt_size e) z) (Nat.lt_irrefl _)
  have cellK : ∀ x c, X.env.cells.lookup x = some c → ∀ v, s.heap.IsCell c v → h'.IsCell c v := fun x c e v ⟨o, ho, hd⟩ => by
    have nch : c ∉ ch := fun z => (hch c z).2.2.1 x c e rfl
    by_cases hc : c ∈ X.fs
    · obtain ⟨sl, q⟩ := slot c o (I.cne x c e) hc nch ho (I.freeC x c e)
      exact ⟨_, q, hd⟩
    · exact ⟨o, keep c o (I.cne x c e) hc nch ho (I.freeC x c e), hd⟩
  refine ⟨I.ok, I.os, hg, ⟨fun b o e n hb hx => ?_, fun b o e n hb hx => ?_, fun b o e n hx => ?_, fun b o e hx => ?_, fun b xs e => tups b xs (I.base.tups b xs e), fun b o xs e => frzs b o xs (I.base.frzs b o xs e), fun b ps e => ?_⟩, ?_, fun x c e => ?_, ?_, fun x c e => ?_, fun p hp => ?_, hok, I.len⟩
  · exact keep b o (neL b o e) hb (neC b o e hx) (I.base.keep b o e n hb hx) (I.base.free b o e n hx)
  · obtain ⟨sl, e1⟩ := I.base.slot b o e n hb hx
    obtain ⟨sl', e2⟩ := slot b _ (neL b o e) hb (neC b o e hx) e1 (I.base.free b o e n hx)
    exact ⟨sl', e2⟩
  · obtain ⟨o', e1⟩ := I.base.there b o e hx
    exact free b o' (neC b o e hx) e1 (I.base.free b o e n hx)
  · obtain ⟨o', e1⟩ := I.base.there b o e hx
    exact there b o' (neC b o e hx) e1
  · obtain ⟨m1, e1⟩ := I.base.tbls b ps e
    obtain ⟨m2, e2⟩ := tbls b _ e1
    exact ⟨m1 ++ m2, by rw [e2, Array.append_assoc]⟩
  · obtain ⟨m, hn, hl⟩ := I.loc
    refine ⟨m, ns m hn, fun i x v e1 e2 e3 => ?_⟩
    obtain ⟨u, r, l⟩ := hl i x v e1 e2 e3
    refine ⟨u, r, ?_⟩
    rcases l with l | ⟨k, c, e, z⟩
    · exact .inl l
    · exact .inr ⟨k, c, e, cellK x c e _ z⟩
  · obtain ⟨v, z⟩ := I.cell x c e
    exact ⟨v, cellK x c e v z⟩
  · obtain ⟨m, ⟨o, _, _, ho, _⟩, _⟩ := I.loc
    exact free _ o (fun z => (hch _ z).2.1 rfl) ho I.free
  · obtain ⟨v, o, ho, hd⟩ := I.cell x c e
    exact free c o (fun z => (hch c z).2.2.1 x c e rfl) ho (I.freeC x c e)
  · obtain ⟨e, n, ne, nf, d⟩ := I.pin p hp
    have nch : p.1 ∉ ch := fun z => (hch p.1 z).2.2.2 p hp rfl
    exact ⟨keep p.1 p.2 ne nf nch e n, free p.1 p.2 nch e n, ne, nf, d⟩
/-- .. where the frame's own object is kept too -/
theorem Inv.un {t' : Nat} (I : Inv X pins σ H s) (u : Un X.fs [] H H' s.heap h') (hok : HOk X.prog X.w H' h') : Inv X pins σ H' { s with heap := h', toks := t' } := by
  obtain ⟨m, ⟨o, es, ep, ho, r⟩, _⟩ := id I.loc
  obtain ⟨sl, hL⟩ := u.any ho I.free (by simp)
  exact I.step (g' := s.gens) (d' := s.drawn) (ch := []) (fun _ z => nomatch z) (fun b o _ hb _ e n => u.keep b o e n hb (by simp)) (fun b o _ hb _ e n => u.slot b o e n hb (by simp)) (fun b o _ e n => u.free b o e n (by simp)) (fun b o _ e => u.there b o e (by simp)) u.tups u.frzs u.tbls (fun m' hm => by
    obtain ⟨o', es', ep', ho', r'⟩ := hm
    rw [ho] at ho'; cases ho'
    exact ⟨_, es', ep', hL, r'⟩) hok I.bare
/-- behind a call (or a comprehension's block): the slots of this frame may have changed too, the records at ch may have turned -/
theorem Inv.call {g' : Array GenState} {t' : Nat} {d' : Drawn} {ch : List Addr} (I : Inv X pins σ H s) (u : Un (frs X.stack) ch H H' s.heap h') (hok : HOk X.prog X.w H' h') (hg : AllBare g')
    (hch : ∀ b ∈ ch, (b ∈ X.ex ∨ X.s₀.heap.objs.size ≤ b) ∧ b ≠ X.env.locals ∧ (∀ x c, X.env.cells.lookup x = some c → c ≠ b) ∧ ∀ p ∈ X.pn ++ pins, p.1 ≠ b) :
    Inv X pins σ H' { s with heap := h', gens := g', drawn := d', toks := t' } := by
  obtain ⟨m, ⟨o, es, ep, ho, r⟩, _⟩ := id I.loc
  obtain ⟨sl, hL⟩ := u.any ho I.free fun z => (hch _ z).2.1 rfl
  exact I.step (ch := ch) hch (fun b o hL hb hc e n => u.keep b o e n (fun z => (List.mem_cons.mp (I.stkSub b z)).elim hL hb) hc) (fun b o _ _ hc e n => u.any e n hc) (fun b o hc e n => u.free b o e n hc) (fun b o hc e => u.there b o e hc) u.tups u.frzs u.tbls (fun m' hm => by
    obtain ⟨o', es', ep', ho', r'⟩ := hm
    rw [ho] at ho'; cases ho'
    exact ⟨_, es', ep', hL, r'⟩) hok hg
/-- an untracked record of ours (an iterator) has turned -/
theorem Inv.turned {t' : Nat} {it : Addr} (I : Inv X pins σ H s) (k : ∀ b o, b ≠ it → s.heap.get? b = some o → h'.get? b = some o) (hn : H it = none) (hL : it ≠ X.env.locals)
    (h1 : it ∈ X.ex ∨ X.s₀.heap.objs.size ≤ it) (h2 : ∀ x c, X.env.cells.lookup x = some c → c ≠ it) (h3 : ∀ p ∈ X.pn ++ pins, p.1 ≠ it) : Inv X pins σ H { s with heap := h', toks := t' } := by
  have nit : ∀ b u, H b = some u → b ≠ it := fun b u e z => by rw [z, hn] at e; cases e
  refine I.step (g' := s.gens) (d' := s.drawn) (ch := [it]) (fun b hb => ?_) (fun b o _ _ hc e _ => k b o (fun z => hc (by simp [z])) e) (fun b o _ _ hc e _ => ⟨o.slots, k b o (fun z => hc (by simp [z])) e⟩) (fun _ _ _ _ n => n)
    (fun b o hc e => ⟨o, k b o (fun z => hc (by simp [z])) e⟩) (fun _ _ e => e) (fun _ _ _ e => e) (fun b ps e => ⟨#[], by rw [e]; simp⟩) (fun m hm => ?_) (fun b u e => ?_) I.bare
  · have e : b = it := by simpa using hb
    subst e
    exact ⟨h1, hL, h2, h3⟩
  · obtain ⟨o, es, ep, ho, r⟩ := hm
    exact ⟨o, es, ep, k _ o (Ne.symm hL) ho, r⟩
  · refine (I.hok b u e).stay (fun c v hc q => k c v ?_ q) (fun _ q => q) fun _ _ q => q
    rcases hc with z | z
    · rw [z]; exact nit b u e
    · exact nit c _ z
theorem Inv.tok (I : Inv X pins σ H s) (t : Nat) : Inv X pins σ H { s with toks := t } := I.un (h' := s.heap) (t' := t) Un.refl I.hok
/-- all objects kept -/
theorem Inv.kept {t' : Nat} (I : Inv X pins σ H s) (k : ∀ b u, s.heap.get? b = some u → h'.get? b = some u) : Inv X pins σ H { s with heap := h', toks := t' } := I.un (Un.kept k) (I.hok.kept k)
/-- a new object laid and tracked -/
theorem Inv.laid {a : Addr} {o : HO} {t' : Nat} (I : Inv X pins σ H s) (k : ∀ b u, s.heap.get? b = some u → h'.get? b = some u) (hp : s.heap.objs.size ≤ a) (new : ObjOk X.prog X.w (upd H a o) h' a o) :
    Inv X pins σ (upd H a o) { s with heap := h', toks := t' } := I.un (Un.laid k hp (I.hok.fresh hp)) (I.hok.laid k hp new)
/-- an object written -/
theorem Inv.write {x e : Addr} {o : HO} {t' : Nat} (I : Inv X pins σ H s) (mu : Mut (H x)) (he : e = x ∨ H e = some (.own x)) (k : ∀ b u, b ≠ e → s.heap.get? b = some u → h'.get? b = some u) (heo : ∃ u, h'.get? e = some u)
    (new : ObjOk X.prog X.w (upd H x o) h' x o) : Inv X pins σ (upd H x o) { s with heap := h', toks := t' } := I.un (Un.write mu he k heo) (I.hok.write mu he k heo new)
/-- forgetting slots, pins -/
theorem Inv.weak {σ' : List (Option V)} (I : Inv X pins σ H s) (hl : σ'.length = σ.length) (w : ∀ (i : Nat) v, σ'[i]? = some (some v) → σ[i]? = some (some v)) : Inv X pins σ' H s :=
  ⟨I.ok, I.os, I.bare, I.base, let ⟨m, hn, hl'⟩ := I.loc; ⟨m, hn, fun i x v e1 e2 e3 => hl' i x v e1 (w i v e2) e3⟩, I.cell, I.free, I.freeC, I.pin, I.hok, hl.trans I.len⟩
theorem Inv.pins_of {pins' : List (Addr × Obj)} (I : Inv X pins σ H s) (h : ∀ p ∈ pins', s.heap.get? p.1 = some p.2 ∧ H p.1 = none ∧ p.1 ≠ X.env.locals ∧ p.1 ∉ X.fs ∧ ∀ v, p.2.data ≠ .cell v) : Inv X pins' σ H s :=
  ⟨I.ok, I.os, I.bare, I.base, I.loc, I.cell, I.free, I.freeC, fun p hp => (List.mem_append.mp hp).elim (fun z => I.pin p (List.mem_append_left _ z)) (h p), I.hok, I.len⟩

theorem nodup_ix {N : List Str} (hN : N.Nodup) {i j : Nat} {x : Str} (a : N[i]? = some x) (b : N[j]? = some x) : i = j := by
  obtain ⟨h1, e1⟩ := List.getElem?_eq_some_iff.mp a
  obtain ⟨h2, e2⟩ := List.getElem?_eq_some_iff.mp b
  exact (List.getElem_inj hN).mp (e1.trans e2.symm)

/-- a name is stored; what changed -/
theorem store_ok2 {M : Model} {A : Around} {E : Value → Shared → Prop} {i : Nat} {x : Str} {v : V} {u : Value} {Q : Unit → Shared → Prop} (I : Inv X pins σ H s) (hN : X.N.Nodup) (hi : X.N[i]? = some x) (hx : Loc X.env.scope x) (r : RelV v u)
    (h : ∀ s', Inv X pins (σ.set i (some v)) H s' → (∃ a, Heap.SameBut a s.heap s'.heap ∧ (a = X.env.locals ∨ X.env.cells.lookup x = some a)) → Q () s') (hf : X.fn x = true ∨ X.env.scope.names.lookup x = some .local := by first | exact .inl rfl | exact .inr rfl | assumption) : wpAny M A (storeName X.env x u) Q E s := by
  obtain ⟨m, hn, hl⟩ := id I.loc
  have hcls : (X.env.scope.kind == .class || (X.env.scope.kind == .module && X.env.locals != X.env.globals)) = false := by rw [I.ok.kind]; rfl
  have hiσ : i < σ.length := by rw [I.len]; exact (List.getElem?_eq_some_iff.mp hi).1
  have cne := I.cne
  have tracked : ∀ {a : Addr} {h' : Heap}, (∃ o, s.heap.get? a = some o ∧ H a = none) → Heap.SameBut a s.heap h' → HOk X.prog X.w H h' := fun {a h'} ha hs b ob e => by
    obtain ⟨_, _, hfree⟩ := ha
    refine (I.hok b ob e).stay (fun c w' hc q => (hs.2 c ?_).trans q) (fun _ q => q) fun _ _ q => q
    rintro rfl
    rcases hc with rfl | hc
    · rw [hfree] at e; cases e
    · rw [hfree] at hc; cases hc
  rcases hx with hk | hk
  · refine wpAny_storeName_local hk hn (fun h' hn' hs => ?_) hcls
    obtain ⟨oL, _, _, hoL, _⟩ := id hn
    refine h _ ⟨I.ok, I.os, I.bare, ⟨fun b o e n hb hx => ?_, fun b o e n hb hx => ?_, I.base.free, fun b o e hx => ?_, I.base.tups, I.base.frzs, I.base.tbls⟩, ⟨_, hn', fun j y v' e1 e2 e3 => ?_⟩, fun y c e => ?_, I.free, I.freeC, fun p hp => ?_, tracked ⟨oL, hoL, I.free⟩ hs, by simpa using I.len⟩ ⟨_, hs, .inl rfl⟩
    · exact (hs.2 b (Nat.ne_of_lt (Nat.lt_of_lt_of_le (Heap.lt_size e) I.ok.above))).trans (I.base.keep b o e n hb hx)
    · obtain ⟨sl, e1⟩ := I.base.slot b o e n hb hx
      exact ⟨sl, (hs.2 b (Nat.ne_of_lt (Nat.lt_of_lt_of_le (Heap.lt_size e) I.ok.above))).trans e1⟩
    · obtain ⟨o', e1⟩ := I.base.there b o e hx
      exact ⟨o', (hs.2 b (Nat.ne_of_lt (Nat.lt_of_lt_of_le (Heap.lt_size e) I.ok.above))).trans e1⟩
    · by_cases hj : j = i
      · subst hj
        rw [hi] at e1; cases e1
        rw [List.getElem?_set_self hiσ] at e2
        cases e2
        exact ⟨u, r, .inl ⟨hk, by simp⟩⟩
      · rw [List.getElem?_set_ne (Ne.symm hj)] at e2
        obtain ⟨u', r', q⟩ := hl j y v' e1 e2 e3
        refine ⟨u', r', ?_⟩
        rcases q with ⟨k, e⟩ | ⟨k, c, e, z⟩
        · refine .inl ⟨k, ?_⟩
          have : y ≠ x := fun e => hj (nodup_ix hN e1 (e ▸ hi))
          simp [this, e]
        · exact .inr ⟨k, c, e, z.sameBut hs (cne y c e)⟩
    · obtain ⟨w', z⟩ := I.cell y c e
      exact ⟨w', z.sameBut hs (cne y c e)⟩
    · obtain ⟨e, n, ne, nf, d⟩ := I.pin p hp
      exact ⟨(hs.2 p.1 ne).trans e, n, ne, nf, d⟩
  · have hfn : X.fn x = true := by
      rcases hf with z | z
      · exact z
      · rw [z] at hk; cases hk
    obtain ⟨c, hc⟩ := I.ok.has x (.inl hk)
    obtain ⟨w', z⟩ := I.cell x c hc
    refine wpAny_storeName_cell I.ok.kind hk hc z (fun h' hc' hs => ?_)
    obtain ⟨oc, hoc, hocd⟩ := id z
    refine h { s with heap := h' } ⟨I.ok, I.os, I.bare, ⟨fun b o e n hb hx => ?_, fun b o e n hb hx => ?_, I.base.free, fun b o e hx => ?_, I.base.tups, I.base.frzs, I.base.tbls⟩, ⟨m, hn.sameBut hs (Ne.symm (cne x c hc)), fun j y v' e1 e2 e3 => ?_⟩, fun y c' e => ?_, I.free, I.freeC, fun p hp => ?_, tracked ⟨oc, hoc, I.freeC x c hc⟩ hs, by simpa using I.len⟩ ⟨c, hs, .inr hc⟩
    · exact (hs.2 b (Nat.ne_of_lt (Nat.lt_of_lt_of_le (Heap.lt_size e) (I.ok.cab x c hfn hc)))).trans (I.base.keep b o e n hb hx)
    · obtain ⟨sl, e1⟩ := I.base.slot b o e n hb hx
      exact ⟨sl, (hs.2 b (Nat.ne_of_lt (Nat.lt_of_lt_of_le (Heap.lt_size e) (I.ok.cab x c hfn hc)))).trans e1⟩
    · obtain ⟨o', e1⟩ := I.base.there b o e hx
      exact ⟨o', (hs.2 b (Nat.ne_of_lt (Nat.lt_of_lt_of_le (Heap.lt_size e) (I.ok.cab x c hfn hc)))).trans e1⟩
    · by_cases hj : j = i
      · subst hj
        rw [hi] at e1; cases e1
        rw [List.getElem?_set_self hiσ] at e2
        cases e2
        exact ⟨u, r, .inr ⟨.inl hk, c, hc, hc'⟩⟩
      · rw [List.getElem?_set_ne (Ne.symm hj)] at e2
        obtain ⟨u', r', q⟩ := hl j y v' e1 e2 e3
        refine ⟨u', r', ?_⟩
        rcases q with q | ⟨k, c', e, z'⟩
        · exact .inl q
        · refine .inr ⟨k, c', e, z'.sameBut hs ?_⟩
          rintro rfl
          exact hj (nodup_ix hN e1 (I.ok.inj _ _ _ e hc ▸ hi))
    · by_cases hcc : c' = c
      · subst hcc; exact ⟨_, hc'⟩
      · obtain ⟨w2, z2⟩ := I.cell y c' e
        exact ⟨w2, z2.sameBut hs hcc⟩
    · obtain ⟨e, n, ne, nf, d⟩ := I.pin p hp
      refine ⟨(hs.2 p.1 ?_).trans e, n, ne, nf, d⟩
      intro q
      rw [q, hoc] at e
      have q' : oc = p.2 := Option.some.inj e
      exact d w' (by rw [← q']; exact hocd)
theorem store_ok {M : Model} {A : Around} {E : Value → Shared → Prop} {i : Nat} {x : Str} {v : V} {u : Value} {Q : Unit → Shared → Prop} (I : Inv X pins σ H s) (hN : X.N.Nodup) (hi : X.N[i]? = some x) (hx : Loc X.env.scope x) (r : RelV v u)
    (h : ∀ s', Inv X pins (σ.set i (some v)) H s' → Q () s') (hf : X.fn x = true ∨ X.env.scope.names.lookup x = some .local := by first | exact .inl rfl | exact .inr rfl | assumption) : wpAny M A (storeName X.env x u) Q E s :=
  store_ok2 I hN hi hx r (fun s' I' _ => h s' I') hf
/-- behind a call or a block, the state as it is -/
theorem Inv.call' {s' : Shared} {ch : List Addr} (I : Inv X pins σ H s) (ho : s'.os = s.os) (u : Un (frs X.stack) ch H H' s.heap s'.heap) (hok : HOk X.prog X.w H' s'.heap) (hg : AllBare s'.gens)
    (hch : ∀ b ∈ ch, (b ∈ X.ex ∨ X.s₀.heap.objs.size ≤ b) ∧ b ≠ X.env.locals ∧ (∀ x c, X.env.cells.lookup x = some c → c ≠ b) ∧ ∀ p ∈ X.pn ++ pins, p.1 ≠ b) : Inv X pins σ H' s' := by
  obtain ⟨h', g', d', t', o'⟩ := s'
  have e : o' = s.os := ho
  subst e
  exact I.call (g' := g') (t' := t') (d' := d') u hok hg hch
end

/-! ### the judgements -/
/-- an exception: its class, its own dict's address (where it has one), the abstract heap behind it -/
abbrev XK := Value → Option Addr → Hp → Prop
abbrev St := List (Option V)
abbrev VK := V → Hp → Prop
/-- an expression's reading; a test's; an argument list's -/
abbrev TE := St → Hp → VK → Prop
abbrev TT := St → Hp → (Bool → Hp → Prop) → Prop
abbrev TA := St → Hp → (List V → Hp → Prop) → Prop
/-- what is wanted behind a statement -/
structure Ends where
  nx : St → Hp → Prop
  rt : VK
  bk : St → Hp → Prop := fun _ _ => False
  ct : St → Hp → Prop := fun _ _ => False
abbrev TS := Ends → St → Hp → Prop

def EP (X : Cx) (pins : List (Addr × Obj)) (σ : St) (Q : VK) (u : Value) (s' : Shared) : Prop := ∃ v H', Inv X pins σ H' s' ∧ RelV v u ∧ Q v H'
def TP (X : Cx) (pins : List (Addr × Obj)) (σ : St) (Q : Bool → Hp → Prop) (b : Bool) (s' : Shared) : Prop := ∃ H', Inv X pins σ H' s' ∧ Q b H'
def AP (X : Cx) (pins : List (Addr × Obj)) (σ : St) (Q : List V → Hp → Prop) (us : List Value) (s' : Shared) : Prop := ∃ vs H', Inv X pins σ H' s' ∧ Vals vs us ∧ Q vs H'
def SP (X : Cx) (pins : List (Addr × Obj)) (D : Ends) (f : Flow) (s' : Shared) : Prop :=
  match f with
  | .next => ∃ σ' H', Inv X pins σ' H' s' ∧ D.nx σ' H'
  | .brk => ∃ σ' H', Inv X pins σ' H' s' ∧ D.bk σ' H'
  | .cont => ∃ σ' H', Inv X pins σ' H' s' ∧ D.ct σ' H'
  | .ret u => ∃ v σ' H', Inv X pins σ' H' s' ∧ RelV v u ∧ D.rt v H'

def PE (X : Cx) (e : Expr) (t : TE) : Prop :=
  ∀ (pins : List (Addr × Obj)) (s : Shared) (σ : St) (H : Hp) (Q : VK), Inv X pins σ H s → t σ H Q → wpAny (model X.prog X.w) X.A (eval e X.env) (EP X pins σ Q) X.xe s
def PT (X : Cx) (e : Expr) (t : TT) : Prop :=
  ∀ (pins : List (Addr × Obj)) (s : Shared) (σ : St) (H : Hp) (Q : Bool → Hp → Prop), Inv X pins σ H s → t σ H Q → wpAny (model X.prog X.w) X.A (isTrue e X.env (eval e X.env)) (TP X pins σ Q) X.xe s
/-- a test whatever its 'whole' is (and, or) -/
def PW (X : Cx) (e : Expr) (t : TT) : Prop :=
  ∀ (whole : Sem Value) (pins : List (Addr × Obj)) (s : Shared) (σ : St) (H : Hp) (Q : Bool → Hp → Prop), Inv X pins σ H s → t σ H Q → wpAny (model X.prog X.w) X.A (isTrue e X.env whole) (TP X pins σ Q) X.xe s
theorem PW.pt {X : Cx} {e : Expr} {t : TT} (h : PW X e t) : PT X e t := h _
/-- an argument list (no star), from the left -/
def PA (X : Cx) (es : List Expr) (t : TA) : Prop :=
  ∀ (pos : Pos) (pins : List (Addr × Obj)) (s : Shared) (σ : St) (H : Hp) (Q : List V → Hp → Prop), Inv X pins σ H s → t σ H Q → wpAny (model X.prog X.w) X.A (spliced (backTo pos (starEach es X.env))) (AP X pins σ Q) X.xe s
def PS (X : Cx) (st : Stmt) (t : TS) : Prop :=
  ∀ (pins : List (Addr × Obj)) (s : Shared) (σ : St) (H : Hp) (D : Ends), Inv X pins σ H s → t D σ H → wpAny (model X.prog X.w) X.A (exec st X.env) (SP X pins D) X.xe s
def PSs (X : Cx) (st : List Stmt) (t : TS) : Prop :=
  ∀ (pins : List (Addr × Obj)) (s : Shared) (σ : St) (H : Hp) (D : Ends), Inv X pins σ H s → t D σ H → wpAny (model X.prog X.w) X.A (execs st X.env) (SP X pins D) X.xe s
/-- weaken the end -/
theorem thn {α : Type} {t : Sem α} {Q Q' : α → Shared → Prop} {M : Model} {A : Around} {E : Value → Shared → Prop} {s : Shared} (h : wpAny M A t Q E s) (hQ : ∀ a s, Q a s → Q' a s) : wpAny M A t Q' E s := wpAny_mono h hQ fun _ _ x => x
end L2

namespace L2
open PySem PySem.Spec PyProof.Rows
section
variable {X : Cx}

/-! ### names and constants -/
def tVar (i : Nat) : TE := fun σ H Q => ∃ v, σ[i]? = some (some v) ∧ Q v H
def tC (v : V) : TE := fun _ H Q => Q v H
theorem pe_var {i : Nat} {x : Str} {pos : Pos} (hN : X.N[i]? = some x) (hv : Vis X.env.scope x) (hd : (x == ("__debug__" : Str)) = false := by decide) (hcd : (x == ("__classdict__" : Str)) = false := by decide) : PE X (.Name x pos) (tVar i) := by
  intro pins s σ H Q I h
  obtain ⟨v, e, h⟩ := h
  obtain ⟨m, hn, hl⟩ := I.loc
  obtain ⟨u, r, l⟩ := hl i x v hN e hv
  have fin : EP X pins σ Q u s := ⟨v, H, I, r, h⟩
  rcases l with ⟨hk, hm⟩ | ⟨hk, c, hc, hcell⟩
  · exact wpAny_Name (wpAny_loadName_local I.ok.kind hk hn hm fin) hd
  · rcases hk with hk | hk
    · exact wpAny_Name (wpAny_loadName_cell I.ok.kind hk hc hcell fin) hd
    · exact wpAny_Name (wpAny_loadName_free I.ok.kind hk hc hcell fin hcd) hd
theorem pe_int {i j pos} : PE X (.Constant (.int i) j pos) (tC (.int i)) := fun _ _ _ H _ I h => wpAny_Constant_int ⟨.int i, H, I.tok _, ⟨_, rfl⟩, h⟩
theorem pe_bl {b j pos} : PE X (.Constant (.bool b) j pos) (tC (.bl b)) := fun _ _ _ H _ I h => Constant_bool ⟨.bl b, H, I, rfl, h⟩
theorem pe_non {j pos} : PE X (.Constant .none j pos) (tC .non) := fun _ _ _ H _ I h => Constant_none ⟨.non, H, I, rfl, h⟩
theorem pe_str {x j pos} : PE X (.Constant (.str x) j pos) (tC (.str x)) := fun _ _ _ H _ I h => Calls.Constant_str ⟨.str x, H, I.tok _, ⟨_, rfl⟩, h⟩

/-- a global name of the def -/
def Gl (X : Cx) (x : Str) : Prop := X.env.kindOf x = some .globalImplicit
theorem ld_glob {E : Value → Shared → Prop} {pins : List (Addr × Obj)} {s : Shared} {σ : St} {H : Hp} {x : Str} {u : Value} {pos : Pos} {Q : Value → Shared → Prop} (I : Inv X pins σ H s) (hg : Gl X x) (hm : X.mg x = some u) (h : Q u s)
    (hd : (x == ("__debug__" : Str)) = false := by decide) : wpAny (model X.prog X.w) X.A (eval (.Name x pos) X.env) Q E s :=
  Calls.Name_function_global I.ok.kind hg (Calls.loadGlobal_global (by rw [I.ok.glob]; exact I.mod.glob.keeps I.bk) hm h) hd
theorem ld_blt {E : Value → Shared → Prop} {pins : List (Addr × Obj)} {s : Shared} {σ : St} {H : Hp} {x : Str} {u : Value} {pos : Pos} {Q : Value → Shared → Prop} (I : Inv X pins σ H s) (hg : Gl X x) (hm : X.mg x = none) (hv : bootBuiltins x = some u) (h : Q u s)
    (hn : x ≠ "__name__" := by decide) (hd : (x == ("__debug__" : Str)) = false := by decide) : wpAny (model X.prog X.w) X.A (eval (.Name x pos) X.env) Q E s := by
  obtain ⟨mb, h1, h2⟩ := I.mod.blt
  exact Calls.Name_function_global I.ok.kind hg (Calls.loadGlobal_builtin (by rw [I.ok.glob]; exact I.mod.glob.keeps I.bk) hm (by rw [I.ok.blt]; exact h1.keeps I.bk) ((h2 x hn).trans hv) h) hd
/-- a module's constant, a class, a function, as a value -/
theorem pe_glob {x : Str} {v : V} {u : Value} {pos : Pos} (hg : Gl X x) (hm : X.mg x = some u) (r : RelV v u) (hd : (x == ("__debug__" : Str)) = false := by decide) : PE X (.Name x pos) (tC v) :=
  fun _ _ _ H _ I h => ld_glob I hg hm ⟨v, H, I, r, h⟩ hd
theorem pe_bltn {x : Str} {v : V} {u : Value} {pos : Pos} (hg : Gl X x) (hm : X.mg x = none) (hv : bootBuiltins x = some u) (r : RelV v u) (hn : x ≠ "__name__" := by decide) (hd : (x == ("__debug__" : Str)) = false := by decide) : PE X (.Name x pos) (tC v) :=
  fun _ _ _ H _ I h => ld_blt I hg hm hv ⟨v, H, I, r, h⟩ hn hd

/-! ### arithmetic -/
variable {a b : Expr} {ta tb : TE} {pos : Pos}
/-! ### comparisons -/
/-- a comparison as a value, as a test -/
def tB (t : TE) : TT := fun σ H Q => t σ H fun x H1 => ∃ c, x = .bl c ∧ Q c H1
/-- an expression whose value is a bool, as a test -/
theorem pt_val {e : Expr} {t : TE} (h : PE X e t) (he : ∀ whole, isTrue e X.env whole = (do let v ← whole; standAt e.pos; holding [v] (truthy v)) := by intro _; rfl) : PT X e (tB t) := by
  intro pins s σ H Q I hw
  refine isTrue_plain (thn (h pins s σ H _ I hw) fun v s1 ⟨x, H1, I1, r1, q1⟩ => ?_) (he _)
  obtain ⟨d, rfl, q⟩ := q1
  cases r1
  exact wpAny_truthy_bool ⟨H1, I1, q⟩

/-! ### and, or, not -/
variable {tA tB' : TT} {rest : List Expr}
def tAnd (t u : TT) : TT := fun σ H Q => t σ H fun c H1 => if c = true then u σ H1 Q else Q false H1
def tOr (t u : TT) : TT := fun σ H Q => t σ H fun c H1 => if c = true then Q true H1 else u σ H1 Q
def tNot (t : TT) : TT := fun σ H Q => t σ H fun c H1 => Q (!c) H1
theorem pw_and1 (ha : PT X a tA) : PW X (.BoolOp .And [a] pos) tA := by
  intro wh pins s σ H Q I h
  refine isTrue_and (thn (ha pins s σ H Q I h) fun c s1 e => ?_)
  cases c with
  | true => exact isTrue_and_nil e
  | false => exact e
theorem pw_or1 (ha : PT X a tA) : PW X (.BoolOp .Or [a] pos) tA := by
  intro wh pins s σ H Q I h
  refine isTrue_or (thn (ha pins s σ H Q I h) fun c s1 e => ?_)
  cases c with
  | false => exact isTrue_or_nil e
  | true => exact e
theorem pw_and (ha : PT X a tA) (hb : PW X (.BoolOp .And (b :: rest) pos) tB') : PW X (.BoolOp .And (a :: b :: rest) pos) (tAnd tA tB') := by
  intro wh pins s σ H Q I h
  refine isTrue_and (thn (ha pins s σ H _ I h) fun c s1 ⟨H1, I1, q1⟩ => ?_)
  cases c with
  | true => exact hb wh pins s1 σ H1 Q I1 q1
  | false => exact ⟨H1, I1, q1⟩
theorem pw_or (ha : PT X a tA) (hb : PW X (.BoolOp .Or (b :: rest) pos) tB') : PW X (.BoolOp .Or (a :: b :: rest) pos) (tOr tA tB') := by
  intro wh pins s σ H Q I h
  refine isTrue_or (thn (ha pins s σ H _ I h) fun c s1 ⟨H1, I1, q1⟩ => ?_)
  cases c with
  | true => exact ⟨H1, I1, q1⟩
  | false => exact hb wh pins s1 σ H1 Q I1 q1
theorem pt_not (ha : PT X a tA) : PT X (.UnaryOp .Not a pos) (tNot tA) := by
  intro pins s σ H Q I h
  exact isTrue_not (ha pins s σ H (fun c H1 => Q (!c) H1) I h)
/-- .. as values (bools) -/
def tAndV (ta tb : TE) : TE := fun σ H Q => ta σ H fun x H1 => ∃ c, x = .bl c ∧ if c = true then tb σ H1 Q else Q (.bl false) H1
def tOrV (ta tb : TE) : TE := fun σ H Q => ta σ H fun x H1 => ∃ c, x = .bl c ∧ if c = true then Q (.bl true) H1 else tb σ H1 Q
def tNotV (ta : TE) : TE := fun σ H Q => ta σ H fun x H1 => ∃ c, x = .bl c ∧ Q (.bl (!c)) H1
theorem pe_one {op} {t : TE} (h : PE X a t) : PE X (.BoolOp op [a] pos) t := fun pins s σ H Q I hw => BoolOp_one (h pins s σ H Q I hw)
theorem pe_and (ha : PE X a ta) (hb : PE X (.BoolOp .And (b :: rest) pos) tb) : PE X (.BoolOp .And (a :: b :: rest) pos) (tAndV ta tb) := by
  intro pins s σ H Q I h
  refine BoolOp_and (thn (ha pins s σ H _ I h) fun v s1 ⟨x, H1, I1, r1, q1⟩ => ?_)
  obtain ⟨c, rfl, q1⟩ := q1
  cases r1
  refine wpAny_truthy_bool ?_
  cases c with
  | true => exact hb pins s1 σ H1 Q I1 q1
  | false => exact ⟨.bl false, H1, I1, rfl, q1⟩
theorem pe_not (ha : PE X a ta) : PE X (.UnaryOp .Not a pos) (tNotV ta) := by
  intro pins s σ H Q I h
  refine UnaryOp_ (thn (ha pins s σ H _ I h) fun v s1 ⟨x, H1, I1, r1, q1⟩ => ?_)
  obtain ⟨c, rfl, q1⟩ := q1
  cases r1
  exact not_of (wpAny_truthy_bool ⟨.bl (!c), H1, I1, rfl, q1⟩)
/-- a if t else b -/
def tIf (t : TT) (ta tb : TE) : TE := fun σ H Q => t σ H fun c H1 => if c = true then ta σ H1 Q else tb σ H1 Q
end
end L2

namespace L2
open PySem PySem.Spec PyProof.Rows

/-! ### a list, a tuple that is read: tracked, frozen, or an object of the module -/
def SqL (K : PySem.W.Frag) (H : Hp) (a : Addr) (xs : List V) : Prop :=
  Rd H a (.lst xs) ∨
    ∃ (o : Obj) (its : Array Value) (n : Nat), K.lookup a = some o ∧ o.cls = .type "list" ∧ o.dict = none ∧ o.data = .seq its n ∧ its.size ≤ sizeLine ∧ Vals xs its.toList
def SqT (K : PySem.W.Frag) (H : Hp) (a : Addr) (xs : List V) : Prop :=
  Rd H a (.tup xs) ∨
    ∃ (o : Obj) (its : Array Value) (n : Nat), K.lookup a = some o ∧ o.cls = .type "tuple" ∧ o.data = .seq its n ∧ its.size ≤ sizeLine ∧ Vals xs its.toList
def absV : Value → Option V
  | .none => some .non
  | .bool b => some (.bl b)
  | .int i _ => some (.int i)
  | .str x _ => some (.str x)
  | .bytes b _ => some (.byt b)
  | .float b _ => some (.flt b)
  | .ref a => some (.ref a)
  | .type n => some (.ty n)
  | _ => none
theorem RelV.abs {x : V} {u : Value} (r : RelV x u) : absV u = some x := by
  cases x with
  | non => cases r; rfl
  | bl _ => cases r; rfl
  | int _ => obtain ⟨t, rfl⟩ := r; rfl
  | str _ => obtain ⟨t, rfl⟩ := r; rfl
  | byt _ => obtain ⟨t, rfl⟩ := r; rfl
  | flt _ => obtain ⟨t, rfl⟩ := r; rfl
  | ref _ => cases r; rfl
  | ty _ => cases r; rfl
theorem RelV.inj {x y : V} {u : Value} (r : RelV x u) (q : RelV y u) : x = y := Option.some.inj (r.abs.symm.trans q.abs)
theorem Vals.inj : ∀ {xs ys : List V} {us : List Value}, Vals xs us → Vals ys us → xs = ys
  | _, _, _, .nil, .nil => rfl
  | _, _, _, .cons r t, .cons r' t' => by rw [r.inj r', Vals.inj t t']
section
variable {X : Cx} {pins : List (Addr × Obj)} {σ : St} {H : Hp} {s : Shared} {a : Addr} {xs ys : List V}
theorem SqL.of {K : PySem.W.Frag} (h : H a = some (.lst xs)) : SqL K H a xs := .inl (.inl h)
theorem SqT.of {K : PySem.W.Frag} (h : H a = some (.tup xs)) : SqT K H a xs := .inl (.inl h)
theorem Inv.list (I : Inv X pins σ H s) (h : SqL X.K H a xs) : ∃ its : List Value, Vals xs its ∧ PlainL s.heap a its.toArray ∧ xs.length ≤ sizeLine := by
  rcases h with h | ⟨o, its, n, hk, hc, hd, hs, hz, r⟩
  · obtain ⟨z, its, n, r, e⟩ := h.ok I.hok
    exact ⟨its, r, ⟨_, n, e, rfl, rfl, rfl⟩, z⟩
  · refine ⟨its.toList, r, ⟨o, n, I.kIn a o hk, hc, hd, by simpa using hs⟩, ?_⟩
    have e := r.length
    simp only [Array.length_toList] at e
    omega
theorem Inv.tuple (I : Inv X pins σ H s) (h : SqT X.K H a xs) : ∃ its : List Value, Vals xs its ∧ IsTup s.heap a its.toArray ∧ xs.length ≤ sizeLine := by
  rcases h with h | ⟨o, its, n, hk, hc, hs, hz, r⟩
  · obtain ⟨z, its, r, p⟩ := h.ok I.hok
    exact ⟨its, r, p, z⟩
  · refine ⟨its.toList, r, ⟨o, I.kIn a o hk, hc, n, by simpa using hs⟩, ?_⟩
    have e := r.length
    simp only [Array.length_toList] at e
    omega
theorem Inv.list_inj (I : Inv X pins σ H s) (h : SqL X.K H a xs) (h' : SqL X.K H a ys) : xs = ys := by
  obtain ⟨its, r, ⟨o, n, e, _, _, d⟩, _⟩ := I.list h
  obtain ⟨its', r', ⟨o', n', e', _, _, d'⟩, _⟩ := I.list h'
  rw [e] at e'; cases e'
  rw [d] at d'
  injection d' with d1 _
  have : its = its' := by simpa using congrArg Array.toList d1
  subst this
  exact r.inj r'
theorem Inv.tuple_inj (I : Inv X pins σ H s) (h : SqT X.K H a xs) (h' : SqT X.K H a ys) : xs = ys := by
  obtain ⟨its, r, ⟨o, e, _, n, d⟩, _⟩ := I.tuple h
  obtain ⟨its', r', ⟨o', e', _, n', d'⟩, _⟩ := I.tuple h'
  rw [e] at e'; cases e'
  rw [d] at d'
  injection d' with d1 _
  have : its = its' := by simpa using congrArg Array.toList d1
  subst this
  exact r.inj r'
end

/-! ### another wish about exceptions -/
abbrev Cx.wish (X : Cx) (E : Value → Shared → Prop) : Cx := { X with xe := E }
/-- no exception leaves -/
abbrev Cx.nox (X : Cx) : Cx := X.wish fun _ _ => False
theorem Cx.Ok.wish {X : Cx} (ok : X.Ok) (E : Value → Shared → Prop) : (X.wish E).Ok :=
  ⟨ok.mod, ok.kind, ok.glob, ok.blt, ok.above, ok.inj, ok.has, ok.cab, ok.hd, ok.frames, ok.stk, ok.exf, ok.bs, ok.bsz, ok.noex, ok.exfs, ok.funs, ok.frf⟩
theorem Cx.Ok.unwish {X : Cx} {E : Value → Shared → Prop} (ok : (X.wish E).Ok) : X.Ok :=
  ⟨ok.mod, ok.kind, ok.glob, ok.blt, ok.above, ok.inj, ok.has, ok.cab, ok.hd, ok.frames, ok.stk, ok.exf, ok.bs, ok.bsz, ok.noex, ok.exfs, ok.funs, ok.frf⟩
section
variable {X : Cx} {pins : List (Addr × Obj)} {σ : St} {H : Hp} {s : Shared} {E : Value → Shared → Prop}
theorem Inv.wish (I : Inv X pins σ H s) (E : Value → Shared → Prop) : Inv (X.wish E) pins σ H s := ⟨I.ok.wish E, I.os, I.bare, I.base, I.loc, I.cell, I.free, I.freeC, I.pin, I.hok, I.len⟩
theorem Inv.unwish (I : Inv (X.wish E) pins σ H s) : Inv X pins σ H s := ⟨I.ok.unwish, I.os, I.bare, I.base, I.loc, I.cell, I.free, I.freeC, I.pin, I.hok, I.len⟩
theorem SP.unwish {D : Ends} {f : Flow} {s' : Shared} (h : SP (X.wish E) pins D f s') : SP X pins D f s' := by
  cases f with
  | next => obtain ⟨σ', H', I, q⟩ := h; exact ⟨σ', H', I.unwish, q⟩
  | brk => obtain ⟨σ', H', I, q⟩ := h; exact ⟨σ', H', I.unwish, q⟩
  | cont => obtain ⟨σ', H', I, q⟩ := h; exact ⟨σ', H', I.unwish, q⟩
  | ret u => obtain ⟨v, σ', H', I, r, q⟩ := h; exact ⟨v, σ', H', I.unwish, r, q⟩
theorem PE.nox {e : Expr} {t : TE} (h : PE X.nox e t) : PE X e t := fun pins s σ H Q I hw =>
  wpAny_mono (h pins s σ H Q (I.wish _) hw) (fun _ _ ⟨v, H', I', r, q⟩ => ⟨v, H', I'.unwish, r, q⟩) fun _ _ z => False.elim z
theorem PT.nox {e : Expr} {t : TT} (h : PT X.nox e t) : PT X e t := fun pins s σ H Q I hw =>
  wpAny_mono (h pins s σ H Q (I.wish _) hw) (fun _ _ ⟨H', I', q⟩ => ⟨H', I'.unwish, q⟩) fun _ _ z => False.elim z
theorem PSs.nox {st : List Stmt} {t : TS} (h : PSs X.nox st t) : PSs X st t := fun pins s σ H D I hw =>
  wpAny_mono (h pins s σ H D (I.wish _) hw) (fun _ _ q => q.unwish) fun _ _ z => False.elim z
end

/-! ### blocks and small statements -/
section
variable {X : Cx} {st : Stmt} {rest : List Stmt} {t u : TS} {e : Expr} {te : TE} {pos : Pos}
def tNext : TS := fun D σ H => D.nx σ H
def tSeq (t u : TS) : TS := fun D σ H => t { D with nx := u D } σ H
theorem pss_nil : PSs X [] tNext := fun _ _ σ H _ I h => wpAny_execs_nil ⟨σ, H, I, h⟩
theorem pss_cons (h1 : PS X st t) (h2 : PSs X rest u) : PSs X (st :: rest) (tSeq t u) := by
  intro pins s σ H D I h
  refine wpAny_execs_cons (thn (h1 pins s σ H { D with nx := u D } I h) fun f s1 q => ?_)
  cases f with
  | next =>
    obtain ⟨σ', H', I', q⟩ := q
    exact h2 pins s1 σ' H' D I' q
  | ret v => exact q
  | brk => exact q
  | cont => exact q
theorem pss_one (h1 : PS X st t) : PSs X [st] t := by
  intro pins s σ H D I h
  refine wpAny_execs_cons (thn (h1 pins s σ H D I h) fun f s1 q => ?_)
  cases f with
  | next => exact wpAny_execs_nil q
  | ret v => exact q
  | brk => exact q
  | cont => exact q
def tBreak : TS := fun D σ H => D.bk σ H
def tCont : TS := fun D σ H => D.ct σ H
/-- in a def's body nothing is shown -/
theorem Inv.quiet {pins : List (Addr × Obj)} {σ : St} {H : Hp} {s : Shared} (I : Inv X pins σ H s) : interactive X.env = false := by simp [interactive, I.ok.kind]
/-- an expression whose value is dropped -/
def tDrop (te : TE) : TS := fun D σ H => te σ H fun _ H1 => D.nx σ H1
theorem ps_expr (he : PE X e te) (hs : swapsWith e none pos.line X.env = pure false := by rfl) : PS X (.Expr e pos) (tDrop te) := by
  intro pins s σ H D I h
  exact wpAny_Expr_any (thn (he pins s σ H _ I h) fun v s1 ⟨x, H1, I1, r1, q1⟩ => ⟨σ, H1, I1, q1⟩) I.quiet hs
def tRet (te : TE) : TS := fun D σ H => te σ H D.rt
theorem ps_ret (he : PE X e te) : PS X (.Return (some e) pos) (tRet te) := by
  intro pins s σ H D I h
  exact wpAny_Return_some (thn (he pins s σ H _ I h) fun v s1 ⟨x, H1, I1, r1, q1⟩ => ⟨x, σ, H1, I1, r1, q1⟩)
def tRetN : TS := fun D _ H => D.rt .non H
def tIfS (c : TT) (t u : TS) : TS := fun D σ H => c σ H fun b H1 => if b = true then t D σ H1 else u D σ H1
theorem ps_if {c : Expr} {a b : List Stmt} {tc : TT} (hc : PT X c tc) (ha : PSs X a t) (hb : PSs X b u) : PS X (.If c a b pos) (tIfS tc t u) := by
  intro pins s σ H D I h
  refine wpAny_If (thn (hc pins s σ H _ I h) fun d s1 ⟨H1, I1, q1⟩ => ?_)
  cases d with
  | true => exact ha pins s1 σ H1 D I1 q1
  | false => exact hb pins s1 σ H1 D I1 q1
end

/-! ### targets -/
abbrev TG := V → St → Hp → (St → Hp → Prop) → Prop
abbrev TGs := List V → St → Hp → (St → Hp → Prop) → Prop
def PG (X : Cx) (target : Expr) (t : TG) : Prop :=
  ∀ (pins : List (Addr × Obj)) (s : Shared) (σ : St) (H : Hp) (v : V) (u : Value) (Q : St → Hp → Prop), Inv X pins σ H s → RelV v u → t v σ H Q →
    wpAny (model X.prog X.w) X.A (assign target X.env u) (fun _ s' => ∃ σ' H', Inv X pins σ' H' s' ∧ Q σ' H') X.xe s
/-- o[i] = v, by values -/
abbrev TSet := V → V → V → Hp → (Hp → Prop) → Prop
def PSet (X : Cx) (t : TSet) : Prop :=
  ∀ (pins : List (Addr × Obj)) (s : Shared) (σ : St) (H : Hp) (o i v : V) (ov iv u : Value) (Q : Hp → Prop), Inv X pins σ H s → RelV o ov → RelV i iv → RelV v u → t o i v H Q →
    wpAny (model X.prog X.w) X.A (setItem ov iv u) (fun _ s' => ∃ H', Inv X pins σ H' s' ∧ Q H') X.xe s
section
variable {X : Cx} {pos : Pos}
def gName (i : Nat) : TG := fun v σ H Q => Q (σ.set i (some v)) H
theorem pg_name {i : Nat} {x : Str} (hN : X.N.Nodup) (hi : X.N[i]? = some x) (hx : Loc X.env.scope x) (hf : X.fn x = true ∨ X.env.scope.names.lookup x = some .local := by first | exact .inl rfl | exact .inr rfl | assumption) : PG X (.Name x pos) (gName i) := by
  intro pins s σ H v u Q I r h
  exact wpAny_assign_Name (store_ok I hN hi hx r (fun s' I' => ⟨_, H, I', h⟩) hf)
def gNil : TGs := fun vs σ H Q => vs = [] ∧ Q σ H
def gCons (t : TG) (u : TGs) : TGs := fun vs σ H Q => ∃ v r, vs = v :: r ∧ t v σ H fun σ' H' => u r σ' H' Q
/-- o[i] = .. -/
def gSub (to ti : TE) (t : TSet) : TG := fun v σ H Q => to σ H fun o H1 => ti σ H1 fun i H2 => t o i v H2 fun H3 => Q σ H3
theorem pg_sub {o i : Expr} {to ti : TE} {t : TSet} (ho : PE X o to) (hi : PE X i ti) (hs : PSet X t)
    (ha : ∀ v, assign (.Subscript o i pos) X.env v = (do
      let ov ← holding [v] (eval o X.env)
      let iv ← holding [v, ov] (eval i X.env)
      standAt pos
      holding [v, ov, iv] (setItem ov iv v)
      release [v, ov, iv] []) := by intro _; rfl) : PG X (.Subscript o i pos) (gSub to ti t) := by
  intro pins s σ H v u Q I r h
  rw [ha]
  refine wpAny_bind (wpAny_holding (thn (ho pins s σ H _ I h) fun ov s1 ⟨x, H1, I1, r1, q1⟩ => ?_))
  refine wpAny_bind (wpAny_holding (thn (hi pins s1 σ H1 _ I1 q1) fun iv s2 ⟨y, H2, I2, r2, q2⟩ => ?_))
  refine wpAny_bind (wpAny_standAt (wpAny_bind (wpAny_holding (thn (hs pins s2 σ H2 x y v ov iv u _ I2 r1 r2 r q2) fun _ s3 ⟨H3, I3, q3⟩ => ?_))))
  exact wpAny_release ⟨σ, H3, I3, q3⟩
/-- target = value -/
def tAsg (te : TE) (g : TG) : TS := fun D σ H => te σ H fun x H1 => g x σ H1 D.nx
theorem ps_asg {tg e : Expr} {te : TE} {g : TG} (he : PE X e te) (hg : PG X tg g) (hs : swapsWithSole [tg] e pos.line X.env = pure false := by rfl) (hw : swappedStores [tg] e X.env = pure none := by rfl)
    (h1 : (assignEach [tg] X.env).map (·.2) = [assign tg X.env] := by rfl) : PS X (.Assign [tg] e pos) (tAsg te g) := by
  intro pins s σ H D I h
  refine wpAny_Assign_stores (thn (he pins s σ H _ I h) fun v s1 ⟨x, H1, I1, r1, q1⟩ => ?_) hs hw
  rw [h1]
  exact thn (hg pins s1 σ H1 x v _ I1 r1 q1) fun _ s2 q => q
/-- name = value -/
theorem ps_set {i : Nat} {x : Str} {e : Expr} {te : TE} {pos' : Pos} (hN : X.N.Nodup) (hi : X.N[i]? = some x) (hx : Loc X.env.scope x) (he : PE X e te) (hs : swapsWith e (some (.Name x pos')) pos.line X.env = pure false := by rfl) (hf : X.fn x = true ∨ X.env.scope.names.lookup x = some .local := by first | exact .inl rfl | exact .inr rfl | assumption) :
    PS X (.Assign [.Name x pos'] e pos) (tAsg te (gName i)) := by
  intro pins s σ H D I h
  refine wpAny_Assign_Name (thn (he pins s σ H _ I h) fun v s1 ⟨y, H1, I1, r1, q1⟩ => ?_) hs
  exact store_ok I1 hN hi hx r1 (fun s2 I2 => ⟨_, H1, I2, q1⟩) hf
/-- a, b = x, y with plain local names: stored from the right; the pair itself is not tracked (the opening rows as in PyProof/Rows/TupAssign.lean:23) -/
def tPar (i j : Nat) (ta : TA) : TS := fun D σ H => ta σ H fun vs H1 => ∃ v w, vs = [v, w] ∧ D.nx ((σ.set i (some v)).set j (some w)) H1
end

/-! ### while -/
section
variable {X : Cx} {pos : Pos}
end

/-! ### what a loop or a comprehension walks -/
/-- at turn i: it yields x (the heap may grow), or it stops -/
structure It where
  go : Nat → Hp → Prop
  yld : Nat → Hp → V → Hp → Prop
  stop : Nat → Hp → Prop
/-- the iterator's own objects may turn: they are not the frame's, not pinned, younger than the entry (or a comprehension's own) -/
def FpOk (X : Cx) (pins : List (Addr × Obj)) (H : Hp) (b : Addr) : Prop :=
  H b = none ∧ b ≠ X.env.locals ∧ b ∉ X.fs ∧ (b ∈ X.ex ∨ X.s₀.heap.objs.size ≤ b) ∧ (∀ x c, X.env.cells.lookup x = some c → c ≠ b) ∧ ∀ p ∈ X.pn ++ pins, p.1 ≠ b
theorem Inv.fpOk {X : Cx} {pins : List (Addr × Obj)} {σ : St} {H H' : Hp} {s : Shared} {b : Addr} (I : Inv X pins σ H s) (hb : s.heap.objs.size ≤ b) (hn : H' b = none) : FpOk X pins H' b := by
  refine ⟨hn, Nat.ne_of_gt (Nat.lt_of_lt_of_le I.lt hb), I.nofs hb, .inr (Nat.le_trans I.sz hb), fun x c e z => ?_, fun p hp z => ?_⟩
  · obtain ⟨v, q⟩ := I.cell x c e
    exact absurd (Nat.lt_of_lt_of_le q.lt (by rw [z]; exact hb)) (Nat.lt_irrefl _)
  · exact absurd (Nat.lt_of_lt_of_le (Heap.lt_size (I.pin p hp).1) (by rw [z]; exact hb)) (Nat.lt_irrefl _)
structure Turn (P : Program) (w : World) (K : PySem.W.Frag) (tg : Expr) (J : It) (fp : List Addr) (it : Addr) (tn : Nat → Heap → Prop) : Prop where
  mem : it ∈ fp
  obj : ∀ i h, tn i h → ∀ b ∈ fp, ∃ o, h.get? b = some o ∧ ∀ v, o.data ≠ .cell v
  keep : ∀ i h h', tn i h → (∀ b ∈ fp, ∀ o, h.get? b = some o → h'.get? b = some o) → tn i h'
  item : ∀ (X : Cx), X.prog = P → X.w = w → X.K = K → X.calm = true → ∀ (i : Nat) (pins : List (Addr × Obj)) (s : Shared) (σ : St) (H : Hp) (E : Value → Shared → Prop), Inv X pins σ H s → (∀ b ∈ fp, FpOk X pins H b) → tn i s.heap → J.go i H →
    wpAny (model P w) X.A (pyNext (.ref it)) (fun r s1 => ∃ u, r = some u ∧
      wpAny (model P w) X.A (letOwnedTupleGo tg (.ref it) u) (fun _ s2 => ∃ x H', Inv X pins σ H' s2 ∧ RelV x u ∧ J.yld i H x H' ∧ tn (i + 1) s2.heap ∧ ∀ b ∈ fp, H' b = none) E s1) E s
  done : ∀ (X : Cx), X.prog = P → X.w = w → X.K = K → X.calm = true → ∀ (i : Nat) (pins : List (Addr × Obj)) (s : Shared) (σ : St) (H : Hp) (E : Value → Shared → Prop), Inv X pins σ H s → (∀ b ∈ fp, FpOk X pins H b) → tn i s.heap → J.stop i H →
    wpAny (model P w) X.A (pyNext (.ref it)) (fun r s1 => r = none ∧ Inv X pins σ H s1) E s
  self : ∀ (A : Around) (i : Nat) (s : Shared) (Q : Value → Shared → Prop) (E : Value → Shared → Prop), tn i s.heap → Q (.ref it) s → wpAny (model P w) A (pyIter (.ref it)) Q E s
abbrev TI := St → Hp → (It → Hp → Prop) → Prop
/-- an iterator has come -/
def PIE (X : Cx) (pins : List (Addr × Obj)) (σ : St) (tg : Expr) (R : It → Hp → Prop) (itv : Value) (s2 : Shared) : Prop :=
  ∃ (it : Addr) (fp : List Addr) (tn : Nat → Heap → Prop) (J : It) (H' : Hp), itv = .ref it ∧ Inv X pins σ H' s2 ∧ Turn X.prog X.w X.K tg J fp it tn ∧ tn 0 s2.heap ∧ (∀ b ∈ fp, FpOk X pins H' b) ∧ R J H'
def PI (X : Cx) (tg iter : Expr) (wi : TI) : Prop :=
  ∀ (pins : List (Addr × Obj)) (s : Shared) (σ : St) (H : Hp) (R : It → Hp → Prop), Inv X pins σ H s → wi σ H R →
    wpAny (model X.prog X.w) X.A (eval iter X.env) (fun v s1 => wpAny (model X.prog X.w) X.A (pyIter v) (PIE X pins σ tg R) X.xe s1) X.xe s

/-- the step ahead of the store is nothing for an iterator that keeps no tuple -/
theorem go_of {M : Model} {A : Around} {E : Value → Shared → Prop} {s : Shared} {tg : Expr} {it : Addr} {u : Value} {o : Obj} {n : String} {vs : Array Value} {Q : Unit → Shared → Prop} (ho : s.heap.get? it = some o) (hc : o.cls = .type n) (hd : o.data = .fields vs)
    (hn : ["enumerate", "zip", "dict_itemiterator", "dict_reverseitemiterator", "odict_iterator", "itertools.zip_longest", "itertools.pairwise"].contains n = false) (hQ : Q () s) : wpAny M A (letOwnedTupleGo tg (.ref it) u) Q E s := by
  unfold letOwnedTupleGo
  cases tg <;> first
    | exact wpAny_pure hQ
    | (cases u <;> first
        | exact wpAny_pure hQ
        | (refine wpAny_bind (wpAny_load ho ?_)
           rw [hc, hd]
           show wpAny M A (if (["enumerate", "zip", "dict_itemiterator", "dict_reverseitemiterator", "odict_iterator", "itertools.zip_longest", "itertools.pairwise"].contains n && vs[0]? == some (rawInt _)) = true then _ else _) Q E s
           rw [if_neg (by intro h; rw [hn, Bool.false_and] at h; cases h)]
           exact wpAny_pure hQ))

/-- the list at a, as it stands at each turn (a loop may append to it) -/
def Itl (K : PySem.W.Frag) (a : Addr) : It :=
  ⟨fun i H => ∃ xs x, SqL K H a xs ∧ xs[i]? = some x, fun i H x H' => H' = H ∧ ∀ xs, SqL K H a xs → xs[i]? = some x, fun i H => ∃ xs, SqL K H a xs ∧ xs.length ≤ i⟩
def Itt (K : PySem.W.Frag) (a : Addr) : It :=
  ⟨fun i H => ∃ xs x, SqT K H a xs ∧ xs[i]? = some x, fun i H x H' => H' = H ∧ ∀ xs, SqT K H a xs → xs[i]? = some x, fun i H => ∃ xs, SqT K H a xs ∧ xs.length ≤ i⟩
/-- lo, lo + 1, .. (n of them) -/
def Itr (lo : Int) (n : Nat) : It := ⟨fun i _ => i < n, fun i H x H' => H' = H ∧ x = .int (lo + i), fun i _ => n ≤ i⟩
theorem turn_list {P : Program} {w : World} {K : PySem.W.Frag} {tg : Expr} (a it : Addr) : Turn P w K tg (Itl K a) [it] it (fun i h => h.IsListIter it a i) where
  mem := by simp
  obj := fun i h st b hb => by
    have e : b = it := by simpa using hb
    subst e
    obtain ⟨o, e, c, d⟩ := st
    exact ⟨o, e, fun v z => by rw [d] at z; cases z⟩
  keep := fun i h h' st k => st.at fun o e => k it (by simp) o e
  item := by
    intro X hP hw hK hc i pins s σ H E I hf st hg
    subst hP hw hK
    obtain ⟨xs, x, hq, hx⟩ := hg
    obtain ⟨its, rv, p, hz⟩ := I.list hq
    obtain ⟨u, hu, ru⟩ := rv.get hx
    obtain ⟨f0, f1, f2, f3, f4, f5⟩ := hf it (by simp)
    refine wpAny_pyNext_list_item st p.isList (x := u) (by simpa using hu) fun h' st' sb => ?_
    have I1 : Inv X pins σ H { s with heap := h' } := I.turned (t' := s.toks) (fun b o hb e => (sb.2 b hb).trans e) f0 f1 f3 f4 f5
    obtain ⟨o, e, c, d⟩ := id st'
    exact ⟨u, rfl, go_of (s := { s with heap := h' }) e c d (by decide) ⟨x, H, I1, ru, ⟨rfl, fun ys hy => by rw [I.list_inj hy hq]; exact hx⟩, st', fun b hb => (hf b hb).1⟩⟩
  done := by
    intro X hP hw hK hc i pins s σ H E I hf st hg
    subst hP hw hK
    obtain ⟨xs, hq, hx⟩ := hg
    obtain ⟨its, rv, p, hz⟩ := I.list hq
    obtain ⟨f0, f1, f2, f3, f4, f5⟩ := hf it (by simp)
    have hl := rv.length
    exact wpAny_pyNext_list_end (I.ok.hd hc) st p.isList (by simp; omega) fun h' eb => ⟨rfl, I.turned (t' := s.toks) (fun b o hb e => eb b o hb e) f0 f1 f3 f4 f5⟩
  self := fun _ _ _ _ _ st h => wpAny_pyIter_listiter st h
theorem turn_tuple {P : Program} {w : World} {K : PySem.W.Frag} {tg : Expr} (a it : Addr) : Turn P w K tg (Itt K a) [it] it (fun i h => h.IsTupleIter it a i) where
  mem := by simp
  obj := fun i h st b hb => by
    have e : b = it := by simpa using hb
    subst e
    obtain ⟨o, e, c, d⟩ := st
    exact ⟨o, e, fun v z => by rw [d] at z; cases z⟩
  keep := fun i h h' st k => st.at fun o e => k it (by simp) o e
  item := by
    intro X hP hw hK hc i pins s σ H E I hf st hg
    subst hP hw hK
    obtain ⟨xs, x, hq, hx⟩ := hg
    obtain ⟨its, rv, p, hz⟩ := I.tuple hq
    obtain ⟨u, hu, ru⟩ := rv.get hx
    obtain ⟨f0, f1, f2, f3, f4, f5⟩ := hf it (by simp)
    refine wpAny_pyNext_tuple_item st (show s.heap.IsTuple a its.toArray from p) (x := u) (by simpa using hu) fun h' st' sb => ?_
    have I1 : Inv X pins σ H { s with heap := h' } := I.turned (t' := s.toks) (fun b o hb e => (sb.2 b hb).trans e) f0 f1 f3 f4 f5
    obtain ⟨o, e, c, d⟩ := id st'
    exact ⟨u, rfl, go_of (s := { s with heap := h' }) e c d (by decide) ⟨x, H, I1, ru, ⟨rfl, fun ys hy => by rw [I.tuple_inj hy hq]; exact hx⟩, st', fun b hb => (hf b hb).1⟩⟩
  done := by
    intro X hP hw hK hc i pins s σ H E I hf st hg
    subst hP hw hK
    obtain ⟨xs, hq, hx⟩ := hg
    obtain ⟨its, rv, p, hz⟩ := I.tuple hq
    obtain ⟨f0, f1, f2, f3, f4, f5⟩ := hf it (by simp)
    have hl := rv.length
    exact wpAny_pyNext_tuple_end (I.ok.hd hc) st (show s.heap.IsTuple a its.toArray from p) (by simp; omega) fun h' eb => ⟨rfl, I.turned (t' := s.toks) (fun b o hb e => eb b o hb e) f0 f1 f3 f4 f5⟩
  self := fun _ _ _ _ _ st h => wpAny_pyIter_tupleiter st h
theorem turn_range {P : Program} {w : World} {K : PySem.W.Frag} {tg : Expr} (it : Addr) (lo : Int) (n : Nat) : Turn P w K tg (Itr lo n) [it] it (fun i h => IsRangeIter h it (lo + (i : Nat) * 1) ((n : Int) - (i : Nat)) 1) where
  mem := by simp
  obj := fun i h st b hb => by
    have e : b = it := by simpa using hb
    subst e
    exact ⟨_, st, fun v z => by
      have z' : Data.fields _ = Data.cell v := z
      cases z'⟩
  keep := fun i h h' st k => k it (by simp) _ st
  item := by
    intro X hP hw hK hc i pins s σ H E I hf st hg
    subst hP hw hK
    obtain ⟨f0, f1, f2, f3, f4, f5⟩ := hf it (by simp)
    have W := Walks.range (prog := X.prog) (w := X.w) (I.ok.hd hc) it lo 1 n
    refine W.item i s _ _ hg st fun v h' tk hv st' kk => ?_
    obtain ⟨t, rfl⟩ := hv
    have I1 : Inv X pins σ H { s with heap := h', toks := tk } := I.turned (fun b o hb e => kk b o (by simpa using hb) e) f0 f1 f3 f4 f5
    refine ⟨_, rfl, go_of (s := { s with heap := h', toks := tk }) (n := "range_iterator") st' rfl rfl (by decide) ⟨.int (lo + i), H, I1, ⟨t, ?_⟩, ⟨rfl, rfl⟩, st', fun b hb => (hf b hb).1⟩⟩
    rw [Int.mul_one]
  done := by
    intro X hP hw hK hc i pins s σ H E I hf st hg
    subst hP hw hK
    obtain ⟨f0, f1, f2, f3, f4, f5⟩ := hf it (by simp)
    exact wpAny_pyNext_range_end (I.ok.hd hc) st (by have : n ≤ i := hg; omega) fun h' eb => ⟨rfl, I.turned (t' := s.toks) (fun b o hb e => eb b o hb e) f0 f1 f3 f4 f5⟩
  self := fun _ _ _ _ _ st h => wpAny_pyIter_rangeiter st h
end L2

namespace L2
open PySem PySem.Spec PyProof.Rows
section
variable {X : Cx} {tg : Expr}
/-- a range object just made, walked -/
theorem range_it {pins : List (Addr × Obj)} {σ : St} {H : Hp} {s : Shared} {R : It → Hp → Prop} {E : Value → Shared → Prop} {lo hi : Int} {t u v : Tok} {tk : Nat} (I : Inv X pins σ H s) (h1 : -(2 ^ 62) ≤ lo) (h2 : lo < 2 ^ 62) (h3 : -(2 ^ 62) ≤ hi) (h4 : hi < 2 ^ 62)
    (q : R (Itr lo (hi - lo).toNat) H) : wpAny (model X.prog X.w) X.A (pyIter (.ref s.heap.objs.size)) (PIE X pins σ tg R) E { s with heap := s.heap.push { cls := .type "range", data := .fields #[.int lo t, .int hi u, .int 1 v] }, toks := tk } := by
  refine wpAny_pyIter_range (IsRange.new ..) (small_one h1 h2 h3 h4) ?_
  have I1 : Inv X pins σ H { s with heap := s.heap.push { cls := .type "range", data := .fields #[.int lo t, .int hi u, .int 1 v] }, toks := tk } := I.kept fun b o e => Heap.get?_push_of_some _ e
  refine ⟨(s.heap.push { cls := .type "range", data := .fields #[.int lo t, .int hi u, .int 1 v] }).objs.size, [(s.heap.push { cls := .type "range", data := .fields #[.int lo t, .int hi u, .int 1 v] }).objs.size], _, _, H, rfl,
    I1.kept (t' := tk) fun b o e => Heap.get?_push_of_some _ e, turn_range _ lo (hi - lo).toNat, ?_, fun b hb => ?_, q⟩
  · have e1 : lo + ((0 : Nat) : Int) * 1 = lo := by simp
    have e2 : (((hi - lo).toNat : Nat) : Int) - ((0 : Nat) : Int) = Builtin.Range.rangeSize lo hi 1 := by rw [rangeSize_one]; split <;> omega
    show IsRangeIter _ _ (lo + ((0 : Nat) : Int) * 1) ((((hi - lo).toNat : Nat) : Int) - ((0 : Nat) : Int)) 1
    rw [e1, e2]
    exact Heap.get?_push_size _ rfl
  · have e : b = (s.heap.push { cls := .type "range", data := .fields #[.int lo t, .int hi u, .int 1 v] }).objs.size := by simpa using hb
    subst e
    exact I1.fpOk (Nat.le_refl _) (I1.hok.fresh (Nat.le_refl _))
def iRng1 (ta : TA) : TI := fun σ H R => ta σ H fun vs H1 => ∃ j : Int, vs = [.int j] ∧ -(2 ^ 62) ≤ j ∧ j < 2 ^ 62 ∧ R (Itr 0 j.toNat) H1
def iRng2 (ta : TA) : TI := fun σ H R => ta σ H fun vs H1 => ∃ i j : Int, vs = [.int i, .int j] ∧ (-(2 ^ 62) ≤ i ∧ i < 2 ^ 62 ∧ -(2 ^ 62) ≤ j ∧ j < 2 ^ 62) ∧ R (Itr i (j - i).toNat) H1
theorem pi_range1 {a : Expr} {ta : TA} {p pos : Pos} (hg : Gl X "range") (hm : X.mg "range" = none) (ha : PA X [a] ta) (hs : starEach [a] X.env = [(false, eval a X.env)] := by rfl) : PI X tg (.Call (.Name "range" p) [a] [] pos) (iRng1 ta) := by
  intro pins s σ H R I h
  refine Call_ (ld_blt I hg hm boot_range (PyProof.Rows.callWith_type1 (thn (ha pos pins s σ H _ I h) fun us s1 ⟨vs, H1, I1, r1, q1⟩ => ?_) hs rfl))
  obtain ⟨j, e, q1, q2, q⟩ := q1
  subst e
  cases r1 with
  | cons r rr =>
    cases rr
    obtain ⟨t, rfl⟩ := r
    exact call_range_1 (range_it I1 (by omega) (by omega) q1 q2 (by simpa using q))
/-! ### for -/
/-- W: the invariant by the turn and a measure; N: what the body is to reach -/
def tFor (wi : TI) (g : TG) (tb : TS) : TS := fun D σ H => wi σ H fun J H1 => ∃ W : Nat → Nat → St → Hp → Prop, (∃ m, W 0 m σ H1) ∧ ∀ i m σ H, W i m σ H →
  (J.stop i H ∧ D.nx σ H) ∨ (J.go i H ∧ ∃ N : St → Hp → Prop, (∀ σ' H', N σ' H' → ∃ m', m' < m ∧ W (i + 1) m' σ' H') ∧ ∀ x H', J.yld i H x H' → g x σ H' fun σ2 H2 => tb { D with nx := N, ct := N, bk := D.nx } σ2 H2)
/-- the records at fp as they stand -/
def pinsAt (fp : List Addr) (h : Heap) : List (Addr × Obj) := fp.filterMap fun b => (h.get? b).map fun o => (b, o)
theorem mem_pinsAt {fp : List Addr} {h : Heap} {b : Addr} {o : Obj} (hb : b ∈ fp) (e : h.get? b = some o) : (b, o) ∈ pinsAt fp h := List.mem_filterMap.mpr ⟨b, hb, by rw [e]; rfl⟩
theorem of_pinsAt {fp : List Addr} {h : Heap} {p : Addr × Obj} (hp : p ∈ pinsAt fp h) : p.1 ∈ fp ∧ h.get? p.1 = some p.2 := by
  obtain ⟨b, hb, e⟩ := List.mem_filterMap.mp hp
  cases q : h.get? b with
  | none => rw [q] at e; cases e
  | some o =>
    rw [q] at e
    have e' : (b, o) = p := Option.some.inj e
    subst e'
    exact ⟨hb, q⟩
theorem Inv.pinned {pins : List (Addr × Obj)} {σ : St} {H : Hp} {s : Shared} {fp : List Addr} (I : Inv X pins σ H s) (hf : ∀ b ∈ fp, FpOk X pins H b) (ho : ∀ b ∈ fp, ∃ o, s.heap.get? b = some o ∧ ∀ v, o.data ≠ .cell v) : Inv X (pins ++ pinsAt fp s.heap) σ H s :=
  I.pins_of fun p hp => (List.mem_append.mp hp).elim (fun z => I.pin p (List.mem_append_right _ z)) fun z => by
    obtain ⟨hb, e⟩ := of_pinsAt z
    obtain ⟨f0, f1, f2, _⟩ := hf p.1 hb
    obtain ⟨o, e', d⟩ := ho p.1 hb
    rw [e] at e'; cases e'
    exact ⟨e, f0, f1, f2, d⟩
theorem Inv.unpinned {pins pl : List (Addr × Obj)} {σ : St} {H : Hp} {s : Shared} (I : Inv X (pins ++ pl) σ H s) : Inv X pins σ H s := I.pins_of fun p hp => I.pin p (List.mem_append_right _ (List.mem_append_left _ hp))
theorem ps_for {iter : Expr} {body : List Stmt} {wi : TI} {g : TG} {tb : TS} {pos : Pos} (hp : PassesOwn (model X.prog X.w) X.A X.env X.xe) (hc : X.calm = true) (hi : PI X tg iter wi) (hg : PG X tg g) (hb : PSs X body tb)
    (hs : ∀ x, foldedSetIterable iter X.env x = pure x := by intro _; rfl) : PS X (.For tg iter body [] pos) (tFor wi g tb) := by
  intro pins s σ H D I h
  refine wpAny_For (thn (hi pins s σ H _ I h) fun v s1 h1 => thn h1 fun itv s2 h2 => ?_) hs
  obtain ⟨it, fp, tn, J, H2, e, I2, T, st2, f2, W, ⟨m0, w0⟩, turn⟩ := h2
  subst e
  -- what stays true of the iterator's objects through the loop
  have stat : ∀ {H' : Hp}, (∀ b ∈ fp, H' b = none) → ∀ b ∈ fp, FpOk X pins H' b := fun hn b hb => ⟨hn b hb, (f2 b hb).2⟩
  refine codeAny_forLoop_any (fun n s' => ∃ i σ' H', Inv X pins σ' H' s' ∧ tn i s'.heap ∧ (∀ b ∈ fp, H' b = none) ∧ W i n σ' H') ?_ m0 ⟨0, σ, H2, I2, st2, fun b hb => (f2 b hb).1, w0⟩
  rintro n s3 ⟨i, σ3, H3, I3, st3, fr3, w3⟩
  rcases turn i n σ3 H3 w3 with ⟨stop, qn⟩ | ⟨go, N, hN, step⟩
  · refine wpAny_passesOwn hp (thn (T.done X rfl rfl rfl hc i pins s3 σ3 H3 X.xe I3 (stat fr3) st3 stop) fun r s4 ⟨hr, I4⟩ => ?_)
    subst hr
    exact wpAny_execs_nil ⟨σ3, H3, I4, qn⟩
  · refine wpAny_passesOwn hp (thn (T.item X rfl rfl rfl hc i pins s3 σ3 H3 X.xe I3 (stat fr3) st3 go) fun r s4 ⟨u, hr, h4⟩ => ?_)
    subst hr
    refine wpAny_passesOwn hp (thn h4 fun _ s5 ⟨x, H5, I5, r5, y5, st5, fr5⟩ => ?_)
    have I5' := I5.pinned (stat fr5) (T.obj _ _ st5)
    refine wpAny_passesOwn hp (thn (hg _ s5 σ3 H5 x u _ I5' r5 (step x H5 y5)) fun _ s6 ⟨σ6, H6, I6, q6⟩ => ?_)
    refine wpAny_passesOwn hp (thn (hb _ s6 σ6 H6 _ I6 q6) fun f s7 q7 => ?_)
    have again : ∀ {σ7 : St} {H7 : Hp}, Inv X (pins ++ pinsAt fp s5.heap) σ7 H7 s7 → N σ7 H7 → ∃ m, m < n ∧ ∃ i σ' H', Inv X pins σ' H' s7 ∧ tn i s7.heap ∧ (∀ b ∈ fp, H' b = none) ∧ W i m σ' H' := fun {σ7 H7} I7 n7 => by
      obtain ⟨m', hm, w7⟩ := hN σ7 H7 n7
      refine ⟨m', hm, i + 1, σ7, H7, I7.unpinned, T.keep _ _ _ st5 fun b hb o e => (I7.pin (b, o) (List.mem_append_right _ (List.mem_append_right _ (mem_pinsAt hb e)))).1, fun b hb => ?_, w7⟩
      obtain ⟨o, e, d⟩ := T.obj _ _ st5 b hb
      exact (I7.pin (b, o) (List.mem_append_right _ (List.mem_append_right _ (mem_pinsAt hb e)))).2.1
    cases f with
    | next => obtain ⟨σ7, H7, I7, n7⟩ := q7; exact again I7 n7
    | cont => obtain ⟨σ7, H7, I7, n7⟩ := q7; exact again I7 n7
    | brk => obtain ⟨σ7, H7, I7, q7⟩ := q7; exact ⟨σ7, H7, I7.unpinned, q7⟩
    | ret v => obtain ⟨x7, σ7, H7, I7, r7, q7⟩ := q7; exact ⟨x7, σ7, H7, I7.unpinned, r7, q7⟩
end

/-! ### the forms one uses -/
/-- over a list that the body leaves as it is -/
theorem for_list {K : PySem.W.Frag} {a : Addr} {xs : List V} {g : TG} {tb : TS} {D : Ends} {σ : St} {H : Hp} (Pv : Nat → St → Hp → Prop) (h0 : Pv 0 σ H) (hl : ∀ i σ H, i ≤ xs.length → Pv i σ H → SqL K H a xs)
    (hs : ∀ i x σ H, xs[i]? = some x → Pv i σ H → g x σ H fun σ2 H2 => tb { D with nx := Pv (i + 1), ct := Pv (i + 1), bk := D.nx } σ2 H2) (hd : ∀ σ H, Pv xs.length σ H → D.nx σ H) :
    ∃ W : Nat → Nat → St → Hp → Prop, (∃ m, W 0 m σ H) ∧ ∀ i m σ H, W i m σ H →
      ((Itl K a).stop i H ∧ D.nx σ H) ∨ ((Itl K a).go i H ∧ ∃ N : St → Hp → Prop, (∀ σ' H', N σ' H' → ∃ m', m' < m ∧ W (i + 1) m' σ' H') ∧ ∀ x H', (Itl K a).yld i H x H' → g x σ H' fun σ2 H2 => tb { D with nx := N, ct := N, bk := D.nx } σ2 H2) := by
  refine ⟨fun i m σ H => m = xs.length - i ∧ i ≤ xs.length ∧ Pv i σ H, ⟨xs.length, by simp, Nat.zero_le _, h0⟩, ?_⟩
  rintro i m σ H ⟨rfl, hi, p⟩
  have q := hl i σ H hi p
  by_cases hlt : i < xs.length
  · refine .inr ⟨⟨xs, xs[i], q, by simp [hlt]⟩, Pv (i + 1), fun σ' H' p' => ⟨xs.length - (i + 1), by omega, rfl, hlt, p'⟩, fun x H' y => ?_⟩
    obtain ⟨e, y⟩ := y
    subst e
    exact hs i x σ _ (y xs q) p
  · have e : i = xs.length := by omega
    subst e
    exact .inl ⟨⟨xs, q, Nat.le_refl _⟩, hd σ H p⟩
theorem for_tup {K : PySem.W.Frag} {a : Addr} {xs : List V} {g : TG} {tb : TS} {D : Ends} {σ : St} {H : Hp} (Pv : Nat → St → Hp → Prop) (h0 : Pv 0 σ H) (hl : ∀ i σ H, i ≤ xs.length → Pv i σ H → SqT K H a xs)
    (hs : ∀ i x σ H, xs[i]? = some x → Pv i σ H → g x σ H fun σ2 H2 => tb { D with nx := Pv (i + 1), ct := Pv (i + 1), bk := D.nx } σ2 H2) (hd : ∀ σ H, Pv xs.length σ H → D.nx σ H) :
    ∃ W : Nat → Nat → St → Hp → Prop, (∃ m, W 0 m σ H) ∧ ∀ i m σ H, W i m σ H →
      ((Itt K a).stop i H ∧ D.nx σ H) ∨ ((Itt K a).go i H ∧ ∃ N : St → Hp → Prop, (∀ σ' H', N σ' H' → ∃ m', m' < m ∧ W (i + 1) m' σ' H') ∧ ∀ x H', (Itt K a).yld i H x H' → g x σ H' fun σ2 H2 => tb { D with nx := N, ct := N, bk := D.nx } σ2 H2) := by
  refine ⟨fun i m σ H => m = xs.length - i ∧ i ≤ xs.length ∧ Pv i σ H, ⟨xs.length, by simp, Nat.zero_le _, h0⟩, ?_⟩
  rintro i m σ H ⟨rfl, hi, p⟩
  have q := hl i σ H hi p
  by_cases hlt : i < xs.length
  · refine .inr ⟨⟨xs, xs[i], q, by simp [hlt]⟩, Pv (i + 1), fun σ' H' p' => ⟨xs.length - (i + 1), by omega, rfl, hlt, p'⟩, fun x H' y => ?_⟩
    obtain ⟨e, y⟩ := y
    subst e
    exact hs i x σ _ (y xs q) p
  · have e : i = xs.length := by omega
    subst e
    exact .inl ⟨⟨xs, q, Nat.le_refl _⟩, hd σ H p⟩
theorem for_range {lo : Int} {n : Nat} {g : TG} {tb : TS} {D : Ends} {σ : St} {H : Hp} (Pv : Nat → St → Hp → Prop) (h0 : Pv 0 σ H)
    (hs : ∀ i σ H, i < n → Pv i σ H → g (.int (lo + i)) σ H fun σ2 H2 => tb { D with nx := Pv (i + 1), ct := Pv (i + 1), bk := D.nx } σ2 H2) (hd : ∀ σ H, Pv n σ H → D.nx σ H) :
    ∃ W : Nat → Nat → St → Hp → Prop, (∃ m, W 0 m σ H) ∧ ∀ i m σ H, W i m σ H →
      ((Itr lo n).stop i H ∧ D.nx σ H) ∨ ((Itr lo n).go i H ∧ ∃ N : St → Hp → Prop, (∀ σ' H', N σ' H' → ∃ m', m' < m ∧ W (i + 1) m' σ' H') ∧ ∀ x H', (Itr lo n).yld i H x H' → g x σ H' fun σ2 H2 => tb { D with nx := N, ct := N, bk := D.nx } σ2 H2) := by
  refine ⟨fun i m σ H => m = n - i ∧ i ≤ n ∧ Pv i σ H, ⟨n, by simp, Nat.zero_le _, h0⟩, ?_⟩
  rintro i m σ H ⟨rfl, hi, p⟩
  by_cases hlt : i < n
  · refine .inr ⟨hlt, Pv (i + 1), fun σ' H' p' => ⟨n - (i + 1), by omega, rfl, hlt, p'⟩, fun x H' y => ?_⟩
    obtain ⟨e, y⟩ := y
    subst e y
    exact hs i σ _ hlt p
  · have e : i = n := by omega
    subst e
    exact .inl ⟨Nat.le_refl _, hd σ H p⟩
end L2

namespace L2
open PySem PySem.Spec PyProof.Rows

abbrev R2 := V → V → Hp → VK → Prop
/-- a two-place operation on values: f is binaryOp op, inplaceOp op or compareOp op -/
def OpR (X : Cx) (f : Value → Value → Sem Value) (r : R2) : Prop :=
  ∀ (pins : List (Addr × Obj)) (s : Shared) (σ : St) (H : Hp) (x y : V) (v u : Value) (Q : VK), Inv X pins σ H s → RelV x v → RelV y u → r x y H Q →
    wpAny (model X.prog X.w) X.A (f v u) (EP X pins σ Q) X.xe s
/-- a call of a value that is known (a builtin, a type) with values -/
def CallR (X : Cx) (f : Value) (r : List V → Hp → VK → Prop) : Prop :=
  ∀ (pins : List (Addr × Obj)) (s : Shared) (σ : St) (H : Hp) (xs : List V) (us : List Value) (Q : VK), Inv X pins σ H s → Vals xs us → r xs H Q →
    wpAny (model X.prog X.w) X.A (call f us) (EP X pins σ Q) X.xe s
def tOp (r : R2) (ta tb : TE) : TE := fun σ H Q => ta σ H fun x H1 => tb σ H1 fun y H2 => r x y H2 Q
def tUn (r : V → Hp → VK → Prop) (ta : TE) : TE := fun σ H Q => ta σ H fun x H1 => r x H1 Q
/-- ints in, under C, and a value out -/
def rI (C : Int → Int → Prop) (g : Int → Int → V) : R2 := fun x y H Q => ∃ i j, x = .int i ∧ y = .int j ∧ C i j ∧ Q (g i j) H
def rI0 (g : Int → Int → V) : R2 := fun x y H Q => ∃ i j, x = .int i ∧ y = .int j ∧ Q (g i j) H
def rU (g : Int → V) : V → Hp → VK → Prop := fun x H Q => ∃ i, x = .int i ∧ Q (g i) H

section
variable {X : Cx} {a b c : Expr} {ta tb tc : TE} {pos : Pos}

theorem binT (ha : PE X a ta) (hb : PE X b tb) {pins : List (Addr × Obj)} {s : Shared} {σ : St} {H : Hp} {R : V → V → Hp → Prop} (I : Inv X pins σ H s)
    (h : ta σ H fun x H1 => tb σ H1 fun y H2 => R x y H2) {Q : Value → Shared → Prop} {f : Value → Value → Sem Value}
    (hf : ∀ v u s2 x y H2, Inv X pins σ H2 s2 → RelV x v → RelV y u → R x y H2 → wpAny (model X.prog X.w) X.A (f v u) Q X.xe s2) :
    wpAny (model X.prog X.w) X.A (eval a X.env) (fun v s₁ => wpAny (model X.prog X.w) X.A (eval b X.env) (fun u s₂ => wpAny (model X.prog X.w) X.A (f v u) Q X.xe s₂) X.xe s₁) X.xe s := by
  refine thn (ha pins s σ H _ I h) fun v s1 ⟨x, H1, I1, r1, q1⟩ => ?_
  refine thn (hb pins s1 σ H1 _ I1 q1) fun u s2 ⟨y, H2, I2, r2, q2⟩ => ?_
  exact hf v u s2 x y H2 I2 r1 r2 q2

theorem pe_op {op : Operator} {r : R2} (ho : OpR X (binaryOp op) r) (ha : PE X a ta) (hb : PE X b tb) : PE X (.BinOp a op b pos) (tOp r ta tb) := by
  intro pins s σ H Q I h
  exact wpAny_BinOp (binT ha hb I h fun v u s2 x y H2 I2 rx ry q => ho pins s2 σ H2 x y v u Q I2 rx ry q)
/-! ### ints -/
theorem opI {f : Value → Value → Sem Value} {C : Int → Int → Prop} {g : Int → Int → Int}
    (rule : ∀ (i j : Int) (t u : Tok) (s : Shared) (Q : Value → Shared → Prop) (E : Value → Shared → Prop), C i j → Q (.int (g i j) s.toks) { s with toks := s.toks + 1 } → wpAny (model X.prog X.w) X.A (f (.int i t) (.int j u)) Q E s) :
    OpR X f (rI C fun i j => .int (g i j)) := by
  intro pins s σ H x y v u Q I rx ry h
  obtain ⟨i, j, rfl, rfl, hc, q⟩ := h
  obtain ⟨t, rfl⟩ := rx
  obtain ⟨t', rfl⟩ := ry
  exact rule i j t t' s _ _ hc ⟨.int (g i j), H, I.tok _, ⟨_, rfl⟩, q⟩
theorem opI0 {f : Value → Value → Sem Value} {g : Int → Int → Int}
    (rule : ∀ (i j : Int) (t u : Tok) (s : Shared) (Q : Value → Shared → Prop) (E : Value → Shared → Prop), Q (.int (g i j) s.toks) { s with toks := s.toks + 1 } → wpAny (model X.prog X.w) X.A (f (.int i t) (.int j u)) Q E s) :
    OpR X f (rI0 fun i j => .int (g i j)) := by
  intro pins s σ H x y v u Q I rx ry h
  obtain ⟨i, j, rfl, rfl, q⟩ := h
  obtain ⟨t, rfl⟩ := rx
  obtain ⟨t', rfl⟩ := ry
  exact rule i j t t' s _ _ ⟨.int (g i j), H, I.tok _, ⟨_, rfl⟩, q⟩
theorem opB0 {f : Value → Value → Sem Value} {g : Int → Int → Bool}
    (rule : ∀ (i j : Int) (t u : Tok) (s : Shared) (Q : Value → Shared → Prop) (E : Value → Shared → Prop), Q (.bool (g i j)) s → wpAny (model X.prog X.w) X.A (f (.int i t) (.int j u)) Q E s) :
    OpR X f (rI0 fun i j => .bl (g i j)) := by
  intro pins s σ H x y v u Q I rx ry h
  obtain ⟨i, j, rfl, rfl, q⟩ := h
  obtain ⟨t, rfl⟩ := rx
  obtain ⟨t', rfl⟩ := ry
  exact rule i j t t' s _ _ ⟨.bl (g i j), H, I, rfl, q⟩

def CDiv (i j : Int) : Prop := 0 < j ∧ j < 1073741824
def CPow (i j : Int) : Prop := 0 ≤ j ∧ j ≤ 1000000 ∧ i.natAbs < 2 ^ 64
def CMul (i j : Int) : Prop := (-(2 ^ 64) < i ∧ i < 2 ^ 64) ∨ (-(2 ^ 64) < j ∧ j < 2 ^ 64)
theorem CMul.ok {i j : Int} (h : CMul i j) : IntMulOk i j := by
  rcases h with ⟨h1, h2⟩ | ⟨h1, h2⟩
  · exact .of_left (intBits_le_64 h1 h2)
  · exact .of_right (intBits_le_64 h1 h2)
theorem op_add : OpR X (binaryOp .Add) (rI0 fun i j => .int (i + j)) := opI0 fun _ _ _ _ _ _ _ q => add_int q
theorem op_sub : OpR X (binaryOp .Sub) (rI0 fun i j => .int (i - j)) := opI0 fun _ _ _ _ _ _ _ q => sub_int q
theorem op_mul : OpR X (binaryOp .Mult) (rI CMul fun i j => .int (i * j)) := opI fun _ _ _ _ _ _ _ hc q => mul_int q hc.ok
/-- // by a positive divisor -/
theorem op_fdiv : OpR X (binaryOp .FloorDiv) (rI CDiv fun i j => .int (i / j)) := opI fun i j _ _ _ _ _ hc q => by
  have h1 : (0 : Int) < j := hc.1
  have h2 : j < 1073741824 := hc.2
  exact floordiv_int (by omega) (by rw [Int.fdiv_eq_ediv_of_nonneg i (by omega)]; exact q) (.inl (PyProof.noPylong_small (by omega)))
/-- % by a positive divisor of any size -/
theorem op_mod : OpR X (binaryOp .Mod) (rI (fun _ j => 0 < j) fun i j => .int (i % j)) := opI fun i j _ _ _ _ _ hc q => by
  have h1 : (0 : Int) < j := hc
  exact mod_int' (by omega) (by rw [Int.fmod_eq_emod_of_nonneg i (by omega)]; exact q)
theorem op_pow : OpR X (binaryOp .Pow) (rI CPow fun i j => .int (i ^ j.toNat)) := opI fun _ _ _ _ _ _ _ hc q => pow_int_small hc.1 hc.2.1 hc.2.2 q
/-! ### bools among ints: n += (a < b) -/
end

/-! ### comparisons -/
/-- the scalars that == tells apart as data does -/
def scal : V → V → Bool
  | .non, .non => true | .non, .int _ => true | .int _, .non => true | .non, .bl _ => true | .bl _, .non => true | .non, .str _ => true | .str _, .non => true
  | .int _, .int _ => true | .bl _, .bl _ => true | .str _, .str _ => true | .byt _, .byt _ => true
  | .int _, .str _ => true | .str _, .int _ => true | .bl _, .str _ => true | .str _, .bl _ => true
  | _, _ => false
def rEq : R2 := fun x y H Q => scal x y = true ∧ Q (.bl (decide (x = y))) H
def rNe : R2 := fun x y H Q => scal x y = true ∧ Q (.bl (!decide (x = y))) H

theorem dec_int {i j : Int} : decide (V.int i = V.int j) = (i == j) := by
  rw [Bool.eq_iff_iff]
  simp
theorem dec_bl {i j : Bool} : decide (V.bl i = V.bl j) = (i == j) := by
  rw [Bool.eq_iff_iff]
  simp
theorem dec_str {i j : Str} : decide (V.str i = V.str j) = (i == j) := by
  rw [Bool.eq_iff_iff]
  simp
theorem dec_byt {i j : Array UInt8} : decide (V.byt i = V.byt j) = (i.toList == j.toList) := by
  rw [Bool.eq_iff_iff]
  cases i
  cases j
  simp

section
variable {X : Cx} {a b c : Expr} {ta tb tc : TE} {pos : Pos}
theorem fin_bl {pins : List (Addr × Obj)} {σ : St} {H : Hp} {s : Shared} {Q : VK} {k k' : Bool} (I : Inv X pins σ H s) (q : Q (.bl k) H) (e : k = k') : EP X pins σ Q (.bool k') s := by
  subst e
  exact ⟨.bl k, H, I, rfl, q⟩
theorem op_eq : OpR X (compareOp .Eq) rEq := by
  intro pins s σ H x y v u Q I rx ry h
  obtain ⟨hs, q⟩ := h
  cases x with
  | non =>
    cases rx
    cases y with
    | non => cases ry; exact PySem.EqNone.eq_none_none (fin_bl I q (by simp))
    | bl j => cases ry; exact PySem.EqNone.eq_none_bool (fin_bl I q (by simp))
    | int j => obtain ⟨t', rfl⟩ := ry; exact PySem.EqNone.eq_none_int (fin_bl I q (by simp))
    | str j => obtain ⟨t', rfl⟩ := ry; exact PySem.EqNone.eq_none_str (fin_bl I q (by simp))
    | _ => exact absurd (show false = true from hs) Bool.false_ne_true
  | bl i =>
    cases rx
    cases y with
    | non => cases ry; exact PySem.EqNone.eq_bool_none (fin_bl I q (by simp))
    | bl j => cases ry; exact eq_bool (fin_bl I q dec_bl)
    | str j => obtain ⟨t', rfl⟩ := ry; exact PySem.EqMixed.eq_bool_str (fin_bl I q (by simp))
    | _ => exact absurd (show false = true from hs) Bool.false_ne_true
  | int i =>
    obtain ⟨t, rfl⟩ := rx
    cases y with
    | non => cases ry; exact PySem.EqNone.eq_int_none (fin_bl I q (by simp))
    | int j => obtain ⟨t', rfl⟩ := ry; exact eq_int (fin_bl I q dec_int)
    | str j => obtain ⟨t', rfl⟩ := ry; exact PySem.EqMixed.eq_int_str (fin_bl I q (by simp))
    | _ => exact absurd (show false = true from hs) Bool.false_ne_true
  | str i =>
    obtain ⟨t, rfl⟩ := rx
    cases y with
    | non => cases ry; exact PySem.EqNone.eq_str_none (fin_bl I q (by simp))
    | bl j => cases ry; exact PySem.EqMixed.eq_str_bool (fin_bl I q (by simp))
    | int j => obtain ⟨t', rfl⟩ := ry; exact PySem.EqMixed.eq_str_int (fin_bl I q (by simp))
    | str j => obtain ⟨t', rfl⟩ := ry; exact eq_str (fin_bl I q dec_str)
    | _ => exact absurd (show false = true from hs) Bool.false_ne_true
  | byt i =>
    obtain ⟨t, rfl⟩ := rx
    cases y with
    | byt j => obtain ⟨t', rfl⟩ := ry; exact PySem.W.eq_bytes (fin_bl I q dec_byt)
    | _ => exact absurd (show false = true from hs) Bool.false_ne_true
  | _ => cases y <;> exact absurd (show false = true from hs) Bool.false_ne_true
theorem op_ne : OpR X (compareOp .NotEq) rNe := by
  intro pins s σ H x y v u Q I rx ry h
  obtain ⟨hs, q⟩ := h
  cases x with
  | non =>
    cases rx
    cases y with
    | non => cases ry; exact PySem.EqNone.ne_none_none (fin_bl I q (by simp))
    | bl j => cases ry; exact PySem.EqNone.ne_none_bool (fin_bl I q (by simp))
    | int j => obtain ⟨t', rfl⟩ := ry; exact PySem.EqNone.ne_none_int (fin_bl I q (by simp))
    | str j => obtain ⟨t', rfl⟩ := ry; exact PySem.EqNone.ne_none_str (fin_bl I q (by simp))
    | _ => exact absurd (show false = true from hs) Bool.false_ne_true
  | bl i =>
    cases rx
    cases y with
    | non => cases ry; exact PySem.EqNone.ne_bool_none (fin_bl I q (by simp))
    | bl j => cases ry; exact ne_bool (fin_bl I q (congrArg not dec_bl))
    | str j => obtain ⟨t', rfl⟩ := ry; exact PySem.EqMixed.ne_bool_str (fin_bl I q (by simp))
    | _ => exact absurd (show false = true from hs) Bool.false_ne_true
  | int i =>
    obtain ⟨t, rfl⟩ := rx
    cases y with
    | non => cases ry; exact PySem.EqNone.ne_int_none (fin_bl I q (by simp))
    | int j => obtain ⟨t', rfl⟩ := ry; exact ne_int (fin_bl I q (congrArg not dec_int))
    | str j => obtain ⟨t', rfl⟩ := ry; exact PySem.EqMixed.ne_int_str (fin_bl I q (by simp))
    | _ => exact absurd (show false = true from hs) Bool.false_ne_true
  | str i =>
    obtain ⟨t, rfl⟩ := rx
    cases y with
    | non => cases ry; exact PySem.EqNone.ne_str_none (fin_bl I q (by simp))
    | bl j => cases ry; exact PySem.EqMixed.ne_str_bool (fin_bl I q (by simp))
    | int j => obtain ⟨t', rfl⟩ := ry; exact PySem.EqMixed.ne_str_int (fin_bl I q (by simp))
    | str j => obtain ⟨t', rfl⟩ := ry; exact ne_str (fin_bl I q (congrArg not dec_str))
    | _ => exact absurd (show false = true from hs) Bool.false_ne_true
  | byt i =>
    obtain ⟨t, rfl⟩ := rx
    cases y with
    | byt j => obtain ⟨t', rfl⟩ := ry; exact PySem.W.ne_bytes (fin_bl I q (congrArg not dec_byt))
    | _ => exact absurd (show false = true from hs) Bool.false_ne_true
  | _ => cases y <;> exact absurd (show false = true from hs) Bool.false_ne_true

theorem op_lt : OpR X (compareOp .Lt) (rI0 fun i j => .bl (decide (i < j))) := opB0 fun _ _ _ _ _ _ _ q => lt_int q
theorem op_le : OpR X (compareOp .LtE) (rI0 fun i j => .bl (decide (i ≤ j))) := opB0 fun _ _ _ _ _ _ _ q => le_int q
theorem op_gt : OpR X (compareOp .Gt) (rI0 fun i j => .bl (decide (j < i))) := opB0 fun _ _ _ _ _ _ _ q => gt_int q
/-- is, is not of two objects that are tracked lists or instances -/
def isObj : HO → Bool
  | .lst _ => true
  | .ins _ _ _ => true
  | _ => false
/-- two rules for one operation: by cases -/
theorem OpR.or {f : Value → Value → Sem Value} {r r' : R2} (h : OpR X f r) (h' : OpR X f r') : OpR X f (fun x y H Q => r x y H Q ∨ r' x y H Q) := by
  intro pins s σ H x y v u Q I rx ry q
  rcases q with q | q
  · exact h pins s σ H x y v u Q I rx ry q
  · exact h' pins s σ H x y v u Q I rx ry q

theorem nomark (b : Expr) {op : CmpOp} (h : op ≠ .In := by decide) (h2 : op ≠ .NotIn := by decide) : behindInMarks op b = false := by
  have e1 : (op == CmpOp.In) = false := by cases op <;> first | rfl | exact absurd rfl h
  have e2 : (op == CmpOp.NotIn) = false := by cases op <;> first | rfl | exact absurd rfl h2
  cases b <;> simp [behindInMarks, e1, e2]
/-- a comparison as a value; hm: nomark b, or (for in, not in) by with_unfolding_all rfl -/
theorem pe_cmpR {op : CmpOp} {r : R2} (ho : OpR X (compareOp op) r) (ha : PE X a ta) (hb : PE X b tb) (hm : behindInMarks op b = false) : PE X (.Compare a [op] [b] pos) (tOp r ta tb) := by
  intro pins s σ H Q I h
  exact wpAny_Compare1 (binT ha hb I h fun v u s2 x y H2 I2 rx ry q => ho pins s2 σ H2 x y v u Q I2 rx ry q) hm
/-- a reading of a value as a test -/
def tTest (t : TE) : TT := fun σ H Q => t σ H fun x H' => ∃ k, x = .bl k ∧ Q k H'
theorem pt_cmpR {op : CmpOp} {r : R2} (ho : OpR X (compareOp op) r) (ha : PE X a ta) (hb : PE X b tb) (hm : behindInMarks op b = false) : PT X (.Compare a [op] [b] pos) (tTest (tOp r ta tb)) := by
  intro pins s σ H Q I h
  refine wpAny_isTrue_Compare1 (thn (ha pins s σ H _ I h) fun v s1 ⟨x, H1, I1, r1, q1⟩ => thn (hb pins s1 σ H1 _ I1 q1) fun u s2 ⟨y, H2, I2, r2, q2⟩ =>
    thn (ho pins s2 σ H2 x y v u _ I2 r1 r2 q2) fun c s3 ⟨z, H3, I3, r3, k, e, q3⟩ => ?_) hm
  subst e
  cases r3
  exact wpAny_truthy_bool ⟨H3, I3, q3⟩
/-- a op1 b op2 c -/
def tChain (r r' : R2) (ta tb tc : TE) : TE := fun σ H Q => ta σ H fun x H1 => tb σ H1 fun y H2 => r x y H2 fun z H3 => ∃ k, z = .bl k ∧
  (if k = true then tc σ H3 fun w' H4 => r' y w' H4 Q else Q (.bl false) H3)
/-! ### truth -/
theorem line63 : (sizeLine : Nat) < 2 ^ 63 := by rw [sizeLine_eq]; decide
/-! ### strs and bytes -/
/-! ### scalar builtins, by CallR -/
theorem vals1 {x : V} {us : List Value} (r : Vals [x] us) : ∃ u, us = [u] ∧ RelV x u := by
  cases r with
  | cons r1 r2 => cases r2; exact ⟨_, rfl, r1⟩
theorem vals2 {x y : V} {us : List Value} (r : Vals [x, y] us) : ∃ u w', us = [u, w'] ∧ RelV x u ∧ RelV y w' := by
  cases r with
  | cons r1 r2 =>
    cases r2 with
    | cons r3 r4 => cases r4; exact ⟨_, _, rfl, r1, r3⟩
end
end L2

namespace L2
open PySem PySem.Spec PyProof.Rows

/-! ### an instance, its attributes a map -/
structure ObjM (h : Heap) (x dx C : Addr) (mA : Str → Option Value) : Prop where
  obj : h.get? x = some (PySem.W.instObj C dx)
  ns : h.Ns1 dx mA
  ne : dx ≠ x

theorem lookIn_ns {h : Heap} {dx : Addr} {mA : Str → Option Value} (n : h.Ns1 dx mA) : ∃ od, h.get? dx = some od ∧ ∀ name, PySem.W.lookIn name od = some (mA name) := by
  obtain ⟨o, es, ep, ho, hd, hk, _, hm⟩ := n
  refine ⟨o, ho, fun name => ?_⟩
  have e := hm name
  unfold nsFind findBy at e
  rw [← Array.find?_toList] at e
  unfold PySem.W.lookIn
  rw [hd]
  dsimp only
  split
  · rename_i y q
    rw [q] at e
    exact congrArg some e
  · rename_i q
    rw [q] at e
    have a : es.toList.any (·.refKey) = false := by
      rw [List.any_eq_false]
      intro y hy
      obtain ⟨z, t, hkey⟩ := hk y (Array.mem_toList_iff.mp hy)
      simp [DictEntry.refKey, hkey]
    have a' : ¬ es.toList.any (·.refKey) = true := by rw [a]; exact Bool.false_ne_true
    rw [if_neg a']
    exact congrArg some e

theorem ObjM.look {h : Heap} {x dx C : Addr} {mA : Str → Option Value} (I : ObjM h x dx C mA) : ∃ od, PySem.W.InstAt h x (PySem.W.instObj C dx) C (some od) ∧ ∀ name, PySem.W.lookIn name od = some (mA name) :=
  let ⟨od, ho, hl⟩ := lookIn_ns I.ns
  ⟨od, ⟨I.obj, rfl, rfl, ho⟩, hl⟩

section
variable {prog : Program} {w : World} {A : Around} {E : Value → Shared → Prop} {s : Shared} {K : PySem.W.Frag} {x dx C f : Addr} {mA : Str → Option Value} {name : Str} {v : Value}

end

/-! ### the attributes as a list of pairs -/
def putF (f : Str) (v : V) : List (Str × V) → List (Str × V)
  | [] => [(f, v)]
  | (g, x) :: r => if g = f then (g, v) :: r else (g, x) :: putF f v r
theorem RelO.some_of {v : V} {o : Option Value} (r : RelO (some v) o) : ∃ u, o = some u ∧ RelV v u := by
  cases o with
  | none => exact (show False from r).elim
  | some u => exact ⟨u, rfl, r⟩
theorem handed_of {v : V} {u : Value} (r : RelV v u) : PySem.W.handedIn u = true := by
  cases v with
  | non => cases (show u = Value.none from r); rfl
  | bl b => cases (show u = Value.bool b from r); rfl
  | int i => obtain ⟨t, e⟩ := (show ∃ t, u = Value.int i t from r); cases e; rfl
  | str x => obtain ⟨t, e⟩ := (show ∃ t, u = Value.str x t from r); cases e; rfl
  | byt b => obtain ⟨t, e⟩ := (show ∃ t, u = Value.bytes b t from r); cases e; rfl
  | flt b => obtain ⟨t, e⟩ := (show ∃ t, u = Value.float b t from r); cases e; rfl
  | ref a => cases (show u = Value.ref a from r); rfl
  | ty n => cases (show u = Value.type n from r); rfl

section
variable {P : Program} {w : World} {H H' : Hp} {h h' : Heap} {a C dx : Addr} {fs fs' : List (Str × V)}
theorem ins_get (hok : HOk P w H h) (e : H a = some (.ins C dx fs)) : ∃ mA, ObjM h a dx C mA ∧ (∀ f, RelO (fs.lookup f) (mA f)) ∧ PySem.Within mA (fs.map (·.1)) ∧ fs.length ≤ 1000 ∧ H dx = some (.own a) := by
  obtain ⟨d, z, ne, ob, mA, n, r, q⟩ := (show ObjOk P w H h a (.ins C dx fs) from hok a _ e)
  exact ⟨mA, ⟨ob, n, ne⟩, r, q, z, d⟩
end

/-! ### what of the text a class must have -/
structure Cls (K : PySem.W.Frag) (C : Addr) : Prop where
  pg : PySem.W.plainGet K C Str.empty = true
  hd : PySem.W.hasDictIn K C = true
  po : PySem.W.plainOver K C = true
  sa : PySem.W.findIn K (.ref C) "__setattr__" = some (some (.builtin "object.__setattr__"))
theorem Cls.get {K : PySem.W.Frag} {C : Addr} (c : Cls K C) (f : Str) : PySem.W.plainGet K C f = true := c.pg
/-- no class of it has the name -/
def NoAttr (K : PySem.W.Frag) (C : Addr) (f : Str) : Prop := PySem.W.findIn K (.ref C) f = some none
/-- a constant of the class -/
structure Con (K : PySem.W.Frag) (C : Addr) (f : Str) (v : V) (u : Value) : Prop where
  at_ : PySem.W.findIn K (.ref C) f = some (some u)
  rel : RelV v u
  get : PySem.W.specialIn K u "__get__" = some none
  cp : PySem.W.copiedNames.contains f = false
/-- a method: a plain def of the class or of one above it -/
structure Meth (K : PySem.W.Frag) (C : Addr) (m : Str) (f : Addr) : Prop where
  at_ : PySem.W.findIn K (.ref C) m = some (some (.ref f))
  fn : PySem.W.isFn K (.ref f) = true
  kp : PySem.W.keepIn K (.ref f) = true

section
variable {X : Cx} {pins : List (Addr × Obj)} {σ : St} {H : Hp} {s : Shared} {a C dx : Addr} {fs : List (Str × V)} {f : Str} {v : V} {A : Around} {E : Value → Shared → Prop}

/-- a new instance, tracked, without attributes -/
theorem Inv.made (I : Inv X pins σ H s) : Inv X pins σ (upd (upd H s.heap.objs.size (.own (s.heap.objs.size + 1))) (s.heap.objs.size + 1) (.ins C s.heap.objs.size []))
    { s with heap := (s.heap.push PySem.W.emptyDict).push (PySem.W.instObj C s.heap.objs.size) } := by
  have e1 : (s.heap.push PySem.W.emptyDict).get? s.heap.objs.size = some PySem.W.emptyDict := Heap.get?_push_size s.heap rfl
  have e2 : ((s.heap.push PySem.W.emptyDict).push (PySem.W.instObj C s.heap.objs.size)).get? (s.heap.objs.size + 1) = some (PySem.W.instObj C s.heap.objs.size) := by
    have := Heap.get?_push_size (s.heap.push PySem.W.emptyDict) (o := PySem.W.instObj C s.heap.objs.size) rfl
    rwa [Heap.size_push] at this
  have e3 : (s.heap.push PySem.W.emptyDict).Ns s.heap.objs.size (fun _ => none) := ⟨PySem.W.emptyDict, #[], _, e1, rfl, (fun e he => absurd he (by simp)), fun _ => rfl⟩
  have I1 := I.laid (a := s.heap.objs.size) (o := .own (s.heap.objs.size + 1)) (h' := s.heap.push PySem.W.emptyDict) (t' := s.toks) (fun b u q => Heap.get?_push_of_some _ q) (Nat.le_refl _) ⟨_, e1⟩
  refine I1.laid (a := s.heap.objs.size + 1) (o := .ins C s.heap.objs.size []) (t' := s.toks) (fun b u q => Heap.get?_push_of_some _ q) (Nat.le_of_eq (Heap.size_push _ _)) ?_
  have ne : s.heap.objs.size ≠ s.heap.objs.size + 1 := Nat.ne_of_lt (Nat.lt_succ_self _)
  refine ⟨by rw [upd_ne ne, upd_same], Nat.zero_le _, ne, e2, fun _ => none, (Heap.Ns1.of_empty e3).at fun o q => Heap.get?_push_of_some _ q, fun _ => True.intro, fun y hy => absurd rfl hy⟩

/-- e.f where nothing but the object is asked: through attributeBase (super) and the last hold -/
theorem attr_of {prog : Program} {w : World} {env : Env} {e : Expr} {f : Str} {pos : Pos} {s : Shared} {Q : Value → Shared → Prop} (hb : attributeBase e f env (eval e env) = eval e env)
    (h : wpAny (model prog w) A (eval e env) (fun o s₁ => wpAny (model prog w) A (getAttr o f true) Q E s₁) E s) : wpAny (model prog w) A (eval (.Attribute e f pos) env) Q E s :=
  Attribute_any_ h (by rw [arm_eval_Attribute, hb])
end

/-! ### readings and rules -/
section
variable {X : Cx} {o e value : Expr} {f : Str} {pos pos' tpos : Pos} {ta tv : TE}
end

/-! ### isinstance -/
section
variable {X : Cx} {pins : List (Addr × Obj)} {σ : St} {H : Hp} {s : Shared} {A : Around} {E : Value → Shared → Prop} {Q : Value → Shared → Prop} {c : Value} {b : Bool}
/-- the type of a value, as the fragment's deciders take it; for an instance its class -/
inductive TyOf (K : PySem.W.Frag) (H : Hp) : V → Value → Prop where
  | non : TyOf K H .non (.type "NoneType")
  | bl (x : Bool) : TyOf K H (.bl x) (.type "bool")
  | int (i : Int) : TyOf K H (.int i) (.type "int")
  | str (x : Str) : TyOf K H (.str x) (.type "str")
  | flt (x : UInt64) : TyOf K H (.flt x) (.type "float")
  | lst {a : Addr} {xs : List V} (e : H a = some (.lst xs)) : TyOf K H (.ref a) (.type "list")
  | frz {a : Addr} {o : Obj} {xs : List V} (e : H a = some (.frz o (.lst xs))) : TyOf K H (.ref a) (.type "list")
  | tup {a : Addr} {xs : List V} (e : H a = some (.tup xs)) : TyOf K H (.ref a) (.type "tuple")
  | dK {a : Addr} {kvs : List (Key × V)} (e : H a = some (.dK kvs)) : TyOf K H (.ref a) (.type "dict")
  | dT {a : Addr} {kvs : List (List Key × V)} (e : H a = some (.dT kvs)) : TyOf K H (.ref a) (.type "dict")
  | ins {a C dx : Addr} {fs : List (Str × V)} (e : H a = some (.ins C dx fs)) (cl : Cls K C) (ha : PySem.W.findIn K (.ref C) "__class__" = some (some (.builtin "object.__class__")))
      (hn : PySem.W.specialIn K (.builtin "object.__class__") "__get__" = some (some (.builtin "getset_descriptor.__get__"))) (htk : PySem.W.takesIn K (.builtin "object.__class__") = some true)
      (hm : PySem.W.mroIn K C (.type "object") = some true) : TyOf K H (.ref a) (.ref C)
/-- isinstance(x, c) for one class c, a built-in or an own one: kitOne's answer -/
theorem isinst_ok {x : V} {u t : Value} (I : Inv X pins σ H s) (rx : RelV x u) (ty : TyOf X.K H x t) (e : PySem.W.kitOne X.K t c = some b) (h : ∀ tk, Q (.bool b) { s with toks := tk }) :
    wpAny (model X.prog X.w) A (call (.builtin "isinstance") [u, c]) Q E s := by
  cases ty with
  | non => cases (show u = Value.none from rx); exact PySem.W.kia_one PySem.W.kitx_none I.kIn True.intro e (fun z => nomatch z) h
  | bl y => cases (show u = Value.bool y from rx); exact PySem.W.kia_one PySem.W.kitx_bool I.kIn True.intro e (fun z => nomatch z) h
  | int i => obtain ⟨t, q⟩ := (show ∃ t, u = Value.int i t from rx); cases q; exact PySem.W.kia_one PySem.W.kitx_int I.kIn True.intro e (fun z => nomatch z) h
  | str y => obtain ⟨t, q⟩ := (show ∃ t, u = Value.str y t from rx); cases q; exact PySem.W.kia_one PySem.W.kitx_str I.kIn True.intro e (fun z => nomatch z) h
  | flt y => obtain ⟨t, q⟩ := (show ∃ t, u = Value.float y t from rx); cases q; exact PySem.W.kia_one PySem.W.kitx_float I.kIn True.intro e (fun z => nomatch z) h
  | @lst a xs ea =>
    cases (show u = Value.ref a from rx)
    obtain ⟨_, _, n, _, h1⟩ := (show ObjOk X.prog X.w H s.heap a (.lst xs) from I.hok a _ ea)
    exact PySem.W.kia_one PySem.W.kitx_list I.kIn ⟨_, h1, rfl⟩ e (fun z => nomatch z) h
  | @frz a ob xs ea =>
    cases (show u = Value.ref a from rx)
    obtain ⟨_, _, _, n, _, h1⟩ := (show ObjOk X.prog X.w H s.heap a (.frz ob (.lst xs)) from I.hok a _ ea)
    exact PySem.W.kia_one PySem.W.kitx_list I.kIn ⟨_, h1, rfl⟩ e (fun z => nomatch z) h
  | @tup a xs ea =>
    cases (show u = Value.ref a from rx)
    obtain ⟨_, _, _, p⟩ := (show ObjOk X.prog X.w H s.heap a (.tup xs) from I.hok a _ ea)
    obtain ⟨o, h1, h2, _⟩ := p
    exact PySem.W.kia_one PySem.W.kitx_tuple I.kIn ⟨o, h1, h2⟩ e (fun z => nomatch z) h
  | @dK a kvs ea =>
    cases (show u = Value.ref a from rx)
    obtain ⟨_, _, vs, _, p⟩ := (show ObjOk X.prog X.w H s.heap a (.dK kvs) from I.hok a _ ea)
    obtain ⟨o, es, ep, h1, h2, _⟩ := p
    exact PySem.W.kia_one PySem.W.kitx_dict I.kIn ⟨o, h1, h2.1⟩ e (fun z => nomatch z) h
  | @dT a kvs ea =>
    cases (show u = Value.ref a from rx)
    obtain ⟨_, _, xs, _, o, es, ep, h1, h2, _⟩ := (show ObjOk X.prog X.w H s.heap a (.dT kvs) from I.hok a _ ea)
    exact PySem.W.kia_one PySem.W.kitx_dict I.kIn ⟨o, h1, h2.1⟩ e (fun z => nomatch z) h
  | @ins a C dx fs ea cl ha hn htk hm =>
    cases (show u = Value.ref a from rx)
    obtain ⟨mA, O, _⟩ := ins_get I.hok ea
    obtain ⟨od, J, _⟩ := O.look
    exact PySem.W.kia_one (PySem.W.kitx_own (cl.get _) cl.hd ha hn htk hm) I.kIn J e (fun z => nomatch z) h
end
end L2

namespace L2
open PySem PySem.Spec PyProof.Rows

/-! ### room -/
structure Room (k : Nat) (A : Around) : Prop where
  hd : A.handled = none
  dp : A.depth + 3 * k + 5 < recursionLimit
  un : A.units + 16 * k + 200 < cLine
theorem Room.mono {j k : Nat} {A : Around} (r : Room k A) (h : j ≤ k) : Room j A := ⟨r.hd, by have := r.dp; omega, by have := r.un; omega⟩
theorem Room.deeper {k : Nat} {A : Around} (r : Room (k + 1) A) (env : Env) : Room k (A.deeper env) :=
  ⟨r.hd, by have := r.dp; show A.depth + 1 + 3 * k + 5 < _; omega, by have := r.un; show A.units + 3 + 16 * k + 200 < _; omega⟩
theorem Room.in1 {k : Nat} {A : Around} (r : Room (k + 1) A) : Room k A.in1 :=
  ⟨r.hd, by have := r.dp; show A.depth + 3 * k + 5 < _; omega, by have := r.un; show A.units + 1 + 16 * k + 200 < _; omega⟩
theorem make_depth {A : Around} {C : Addr} {us : List Value} {kw : List (Str × Value)} : (A.under (.builtin "type.__call__" ⟨.ref C :: us, kw⟩)).depth = A.depth + 1 := by
  first | rfl | simp [Around.under, Code.weight, Code.isCreation, Code.isGuard, Code.isCaller, Code.frames, Code.isFrame, guardIds]
theorem make_units {A : Around} {C : Addr} {us : List Value} {kw : List (Str × Value)} : (A.under (.builtin "type.__call__" ⟨.ref C :: us, kw⟩)).units = A.units + 1 := by
  first | rfl | simp [Around.under, Code.cUnits, Code.frames, Code.isFrame]
theorem Room.make {k : Nat} {A : Around} (r : Room (k + 1) A) (C : Addr) (us : List Value) (kw : List (Str × Value)) : Room k (A.under (.builtin "type.__call__" ⟨.ref C :: us, kw⟩)) :=
  ⟨r.hd, by have := r.dp; rw [make_depth]; omega, by have := r.un; rw [make_units]; omega⟩
theorem Room.depth {k : Nat} {A : Around} (r : Room k A) : A.depth < recursionLimit := by have := r.dp; omega
theorem Room.units {k : Nat} {A : Around} (r : Room k A) : A.units + 64 < cLine := by have := r.un; omega
/-! ### argument lists and displays -/
def tNil : TA := fun _ H Q => Q [] H
def tCons (ta : TE) (tr : TA) : TA := fun σ H Q => ta σ H fun x H1 => tr σ H1 fun xs H2 => Q (x :: xs) H2
section
variable {X : Cx} {e : Expr} {es : List Expr} {te : TE} {t : TA} {pos : Pos}
theorem pa_nil : PA X [] tNil := fun _ _ _ _ H Q I h => Calls.spliced_nil ⟨[], H, I, .nil, h⟩
theorem pa_cons (ha : PE X e te) (hr : PA X es t) (hs : starEach (e :: es) X.env = (false, eval e X.env) :: starEach es X.env := by rfl) : PA X (e :: es) (tCons te t) := by
  intro pos pins s σ H Q I h
  rw [hs]
  show wpAny _ _ (spliced ((false, eval e X.env) :: backTo pos (starEach es X.env))) _ _ s
  refine Calls.spliced_cons (thn (ha pins s σ H _ I h) fun u s1 ⟨x, H1, I1, r1, q1⟩ => ?_)
  exact thn (hr pos pins s1 σ H1 _ I1 q1) fun us s2 ⟨xs, H2, I2, r2, q2⟩ => ⟨x :: xs, H2, I2, .cons r1 r2, q2⟩

/-- a tuple, a list of written items -/
def tTup (t : TA) : TE := fun σ H Q => t σ H fun xs H1 => xs.length ≤ sizeLine ∧ ∀ p, H1 p = none → Q (.ref p) (upd H1 p (.tup xs))
def tLst (t : TA) : TE := fun σ H Q => t σ H fun xs H1 => xs.length ≤ sizeLine ∧ ∀ p, H1 p = none → Q (.ref p) (upd H1 p (.lst xs))
end

/-! ### what a def promises -/
/-- a def's promise: the bound arguments in the parameters' order, the heap, the wanted end, the wanted exception -/
abbrev Sp := List V → Hp → VK → XK → Prop
/-- how an exception lies behind a call (file 08 gives it): the callers' frames, abstract heap and state ahead of the call, the wish, the exception, the state -/
abbrev CXT := List Env → Hp → Shared → XK → Value → Shared → Prop

/-- the state at a call -/
structure Env0 (P : Program) (w : World) (K : PySem.W.Frag) (mg : Str → Option Value) (base : Heap) (A : Around) (outer : List Env) (s : Shared) (H : Hp) : Prop where
  frames : A.frames = some outer
  mod : Mod K mg base
  bs : ∀ b o, base.get? b = some o → s.heap.get? b = some o ∧ H b = none
  bsz : base.objs.size ≤ s.heap.objs.size
  funs : s.heap.FunFrames base outer
  frf : ∀ b ∈ frs outer, H b = none
  hok : HOk P w H s.heap
  bare : AllBare s.gens
/-- a call's end -/
def CE (outer : List Env) (P : Program) (w : World) (H : Hp) (s : Shared) (Q : VK) (u : Value) (s' : Shared) : Prop :=
  ∃ v H', s'.os = s.os ∧ AllBare s'.gens ∧ Un (frs outer) [] H H' s.heap s'.heap ∧ HOk P w H' s'.heap ∧ RelV v u ∧ Q v H'
def CR (CX : CXT) (outer : List Env) (P : Program) (w : World) (H : Hp) (s : Shared) (Q : VK) (E : XK) (r : Result) (s' : Shared) : Prop :=
  match r with
  | .ok (.ret u) => CE outer P w H s Q u s'
  | .ok _ => False
  | .error e => CX outer H s E e s'
structure FnOk (P : Program) (w : World) (K : PySem.W.Frag) (mg : Str → Option Value) (base : Heap) (CX : CXT) (k : Nat) (f : Addr) (fd : FuncData) (ps : List Str) (sp : Sp) : Prop where
  len : ∀ vs H Q E, sp vs H Q E → vs.length = ps.length
  run : ∀ (A : Around) (outer : List Env) (s : Shared) (H : Hp) (args : Args) (us : List Value) (vs : List V) (Q : VK) (E : XK), Room k A → Env0 P w K mg base A outer s H → BindsTo s fd args (ps.zip us) → Vals vs us → sp vs H Q E →
    codeAny (model P w) A (.call (.ref f) args) (CR CX outer P w H s Q E) s
theorem FnOk.mono {P : Program} {w : World} {K : PySem.W.Frag} {mg : Str → Option Value} {base : Heap} {CX : CXT} {j k : Nat} {f : Addr} {fd : FuncData} {ps : List Str} {sp : Sp} (F : FnOk P w K mg base CX j f fd ps sp) (h : j ≤ k) :
    FnOk P w K mg base CX k f fd ps sp := ⟨F.len, fun A outer s H args us vs Q E hr => F.run A outer s H args us vs Q E (hr.mono h)⟩
/-- a weaker promise -/
theorem FnOk.imp {P : Program} {w : World} {K : PySem.W.Frag} {mg : Str → Option Value} {base : Heap} {CX : CXT} {k : Nat} {f : Addr} {fd : FuncData} {ps : List Str} {sp sp' : Sp} (F : FnOk P w K mg base CX k f fd ps sp)
    (h : ∀ vs H Q E, sp' vs H Q E → sp vs H Q E) : FnOk P w K mg base CX k f fd ps sp' :=
  ⟨fun vs H Q E q => F.len vs H Q E (h _ _ _ _ q), fun A outer s H args us vs Q E hr he hb hv hs => F.run A outer s H args us vs Q E hr he hb hv (h _ _ _ _ hs)⟩

theorem Env0.make {P : Program} {w : World} {K : PySem.W.Frag} {mg : Str → Option Value} {base : Heap} {A : Around} {outer : List Env} {s : Shared} {H : Hp} (e : Env0 P w K mg base A outer s H) (C : Addr) (us : List Value) (kw : List (Str × Value)) :
    Env0 P w K mg base (A.under (.builtin "type.__call__" ⟨.ref C :: us, kw⟩)) outer s H := ⟨by first | exact e.frames | (simpa [Around.under, Code.envs, Code.isFrame, pushEnvs] using e.frames), e.mod, e.bs, e.bsz, e.funs, e.frf, e.hok, e.bare⟩
theorem Env0.in1 {P : Program} {w : World} {K : PySem.W.Frag} {mg : Str → Option Value} {base : Heap} {A : Around} {outer : List Env} {s : Shared} {H : Hp} (e : Env0 P w K mg base A outer s H) :
    Env0 P w K mg base A.in1 outer s H := ⟨e.frames, e.mod, e.bs, e.bsz, e.funs, e.frf, e.hok, e.bare⟩

section
variable {X : Cx} {pins : List (Addr × Obj)} {σ : St} {H : Hp} {s s' : Shared}
/-- from a body: what a callee wants -/
theorem Inv.env0 (I : Inv X pins σ H s) : Env0 X.prog X.w X.K X.mg X.base X.A X.stack s H :=
  ⟨I.ok.frames, I.ok.mod, I.bs, Nat.le_trans I.ok.bsz I.sz, I.stack, I.stkFree, I.hok, I.bare⟩
/-- behind a call -/
theorem Inv.after {Q : VK} {u : Value} (I : Inv X pins σ H s) (h : CE X.stack X.prog X.w H s Q u s') : EP X pins σ Q u s' := by
  obtain ⟨v, H', os, bare, un, hok, r, q⟩ := h
  obtain ⟨hh, g, d, t, os'⟩ := s'
  obtain rfl : os' = s.os := os
  exact ⟨v, H', I.call (h' := hh) (g' := g) (d' := d) (t' := t) (ch := []) un hok bare (fun b z => absurd z (by simp)), r, q⟩
end

/-! ### calls -/
/-- f(..): the written arguments, then the defaults dvs; E: what is wanted of an exception -/
def tCall (sp : Sp) (dvs : List V) (E : XK) (t : TA) : TE := fun σ H Q => t σ H fun vs H1 => sp (vs ++ dvs) H1 Q E
/-- how the parameters are bound: us the positional arguments, kw the keywords' values by name, ds the defaults that fill up -/
def Binds (K : PySem.W.Frag) (fd : FuncData) (ps : List Str) (ds : List Value) : Prop :=
  ∀ (s : Shared) (us : List Value), K.In s.heap → (us ++ ds).length = ps.length → BindsTo s fd ⟨us, []⟩ (ps.zip (us ++ ds))
/-- every parameter is given -/
theorem Binds.all {K : PySem.W.Frag} {fd : FuncData} {ps : List Str} (h : ∀ us : List Value, us.length = ps.length → bindArgs fd ⟨us, []⟩ = pure (ps.zip us)) : Binds K fd ps [] := fun s us _ hl => by
  rw [List.append_nil] at hl ⊢
  exact .of_eq (h us hl)

/-- an exception of a callee reaches what this body wants of exceptions -/
def Passes (CX : CXT) (X : Cx) (E : XK) : Prop := ∀ (pins : List (Addr × Obj)) (σ : St) (H : Hp) (s : Shared) (e : Value) (s' : Shared), Inv X pins σ H s → CX X.stack H s E e s' → X.xe e s'

section
variable {X : Cx} {CX : CXT} {k : Nat} {f C : Addr} {fd : FuncData} {ps : List Str} {sp : Sp} {dvs : List V} {ds : List Value} {E : XK} {x m : Str} {p pos apos : Pos} {e o : Expr} {es : List Expr} {ta : TE} {t : TA}

/-- the callee runs -/
theorem run_fn {pins : List (Addr × Obj)} {σ : St} {H : Hp} {s : Shared} {Q : VK} {us : List Value} {vs : List V} (F : FnOk X.prog X.w X.K X.mg X.base CX k f fd ps sp) (hr : Room k X.A) (hb : Binds X.K fd ps ds) (hd : Vals dvs ds) (hx : Passes CX X E)
    (I : Inv X pins σ H s) (r : Vals vs us) (h : sp (vs ++ dvs) H Q E) : wpAny (model X.prog X.w) X.A (call (.ref f) us) (EP X pins σ Q) X.xe s := by
  have r2 : Vals (vs ++ dvs) (us ++ ds) := r.append hd
  have hl : (us ++ ds).length = ps.length := by rw [← r2.length]; exact F.len _ _ _ _ h
  refine wpAny_call (codeAny_mono (F.run X.A X.stack s H ⟨us, []⟩ (us ++ ds) (vs ++ dvs) Q E hr I.env0 (hb s us I.kIn hl) r2 h) fun r s' hq => ?_)
  cases r with
  | error e => exact hx pins σ H s e s' I hq
  | ok fl =>
    cases fl with
    | ret u => exact I.after hq
    | next => exact False.elim hq
    | brk => exact False.elim hq
    | cont => exact False.elim hq

theorem pe_call (F : FnOk X.prog X.w X.K X.mg X.base CX k f fd ps sp) (hr : Room k X.A) (hg : Gl X x) (hm : X.mg x = some (.ref f)) (hk : PySem.W.keepIn X.K (.ref f) = true) (hb : Binds X.K fd ps ds) (hd : Vals dvs ds) (hx : Passes CX X E)
    (ha : PA X (e :: es) t) (hdb : (x == ("__debug__" : Str)) = false := by decide) (he : starEach (e :: es) X.env = (false, eval e X.env) :: starEach es X.env := by rfl) (hpl : (backTo pos (starEach es X.env)).any (·.1) = false := by rfl) :
    PE X (.Call (.Name x p) (e :: es) [] pos) (tCall sp dvs E t) := by
  intro pins s σ H Q I h
  refine wpAny_Call_Name_kw (ld_glob I hg hm ?_ hdb)
  refine PySem.W.callWith_K (h₀ := X.base) I.ok.mod.kin hk (thn (ha pos pins s σ H _ I h) fun us s1 ⟨vs, H1, I1, r, q⟩ => ⟨I1.kIn, ?_⟩) he hpl
  exact run_fn F hr hb hd hx I1 r q
/-- what a class must have to be made -/
structure Mk (K : PySem.W.Frag) (C f : Addr) : Prop where
  makes : PySem.W.makesIn K C = true
  init : PySem.W.findIn K (.ref C) "__init__" = some (some (.ref f))
  fn : PySem.W.isFn K (.ref f) = true
  kp : PySem.W.keepIn K (.ref C) = true

end

/-! ### keywords -/
section
variable {X : Cx} {CX : CXT} {k : Nat} {f C : Addr} {fd : FuncData} {ps ks : List Str} {sp : Sp} {E : XK} {x m : Str} {p pos apos kpos : Pos} {e o : Expr} {es : List Expr} {kws : List Keyword} {te ta : TE} {t tk : TA} {nm : Option Str}
/-- how a call with keywords binds: g puts the positional values us and the keywords' values ws (names ks) in the parameters' order, defaults among them -/
structure KBinds (K : PySem.W.Frag) (fd : FuncData) (ps ks : List Str) (g : List Value → List Value → List Value) (gV : List V → List V → List V) : Prop where
  to : ∀ (s : Shared) (us ws : List Value), K.In s.heap → (g us ws).length = ps.length → BindsTo s fd ⟨us, ks.zip ws⟩ (ps.zip (g us ws))
  rel : ∀ {vs : List V} {us : List Value} {zs : List V} {ws : List Value}, Vals vs us → Vals zs ws → Vals (gV vs zs) (g us ws)
variable {g : List Value → List Value → List Value} {gV : List V → List V → List V}
end

/-! ### a def's body keeps its promise -/
/-- names: the parameters first -/
structure FnScope (N P : List Str) (sc : Scope) : Prop where
  kind : sc.kind = .function
  co : sc.isCoroutine = false
  gen : sc.isGenerator = false
  nd : N.Nodup
  pre : N.take P.length = P
  par : ∀ x ∈ P, sc.names.lookup x = some .local ∨ sc.names.lookup x = some .cell
  nofree : ∀ y ∈ sc.names, y.2 ≠ .free

theorem bindL_out {kindOf : Str → Option NameKind} {x : Str} : ∀ {binds : List (Str × Value)} {m : Str → Option Value}, (∀ v, (x, v) ∉ binds) → bindL kindOf binds m x = m x
  | [], _, _ => rfl
  | (n, v) :: r, m, h => by
    unfold bindL
    rw [bindL_out fun w hw => h w (List.mem_cons_of_mem _ hw)]
    split
    · have : x ≠ n := by rintro rfl; exact h v List.mem_cons_self
      simp [this]
    · rfl
theorem bindC_out {kindOf : Str → Option NameKind} {x : Str} : ∀ {binds : List (Str × Value)} {m : Str → Option Value}, (∀ v, (x, v) ∉ binds) → bindC kindOf binds m x = m x
  | [], _, _ => rfl
  | (n, v) :: r, m, h => by
    unfold bindC
    rw [bindC_out fun w hw => h w (List.mem_cons_of_mem _ hw)]
    split
    · rfl
    · have : x ≠ n := by rintro rfl; exact h v List.mem_cons_self
      simp [this]
theorem bindL_get {kindOf : Str → Option NameKind} {x : Str} {v : Value} : ∀ {P : List Str} {vs : List Value} {i : Nat} {m : Str → Option Value}, P.Nodup → P[i]? = some x → vs[i]? = some v → kindOf x = some .local →
    bindL kindOf (P.zip vs) m x = some v
  | [], _, _, _, _, h, _, _ => by simp at h
  | _ :: _, [], _, _, _, _, h, _ => by simp at h
  | p :: P, w :: vs, 0, m, nd, h1, h2, hk => by
    simp at h1 h2; subst h1; subst h2
    show bindL kindOf ((p, w) :: P.zip vs) m p = _
    unfold bindL
    rw [bindL_out fun v hv => (List.nodup_cons.mp nd).1 (List.of_mem_zip hv).1, if_pos hk]
    simp
  | p :: P, w :: vs, i + 1, m, nd, h1, h2, hk => by
    show bindL kindOf ((p, w) :: P.zip vs) m x = _
    unfold bindL
    exact bindL_get (i := i) (List.nodup_cons.mp nd).2 (by simpa using h1) (by simpa using h2) hk
theorem bindC_get {kindOf : Str → Option NameKind} {x : Str} {v : Value} : ∀ {P : List Str} {vs : List Value} {i : Nat} {m : Str → Option Value}, P.Nodup → P[i]? = some x → vs[i]? = some v → kindOf x ≠ some .local →
    bindC kindOf (P.zip vs) m x = some v
  | [], _, _, _, _, h, _, _ => by simp at h
  | _ :: _, [], _, _, _, _, h, _ => by simp at h
  | p :: P, w :: vs, 0, m, nd, h1, h2, hk => by
    simp at h1 h2; subst h1; subst h2
    show bindC kindOf ((p, w) :: P.zip vs) m p = _
    unfold bindC
    rw [bindC_out fun v hv => (List.nodup_cons.mp nd).1 (List.of_mem_zip hv).1, if_neg hk]
    simp
  | p :: P, w :: vs, i + 1, m, nd, h1, h2, hk => by
    show bindC kindOf ((p, w) :: P.zip vs) m x = _
    unfold bindC
    exact bindC_get (i := i) (List.nodup_cons.mp nd).2 (by simpa using h1) (by simpa using h2) hk

/-- the names' values at the entry -/
def start (N : List Str) (vs : List V) : St := vs.map some ++ List.replicate (N.length - vs.length) none

/-- the context of a def's body, at its entry; an exception leaves the frame, then lies as CX says -/
def cxOf (CX : CXT) (P : Program) (w : World) (K : PySem.W.Frag) (mg : Str → Option Value) (base : Heap) (N : List Str) (qual : Str) (scope : Scope) (f : Addr) (cd : Value) (A : Around) (outer : List Env) (s : Shared) (H : Hp) (E : XK) : Cx where
  prog := P
  w := w
  K := K
  mg := mg
  base := base
  A := A.deeper (envOfC qual scope s.heap.objs.size f cd)
  N := N
  s₀ := s
  H₀ := H
  env := envOfC qual scope s.heap.objs.size f cd
  outer := outer
  stack := envOfC qual scope s.heap.objs.size f cd :: outer
  ex := []
  calm := true
  fn := fun _ => true
  pn := []
  xe := fun e s' => wpAny (model P w) (A.deeper (envOfC qual scope s.heap.objs.size f cd)) (leaving (envOfC qual scope s.heap.objs.size f cd) e) (fun _ s'' => CX outer H s E e s'') (fun e' s'' => CX outer H s E e' s'') s'

theorem cell_has {sc : Scope} {n : Nat} {x : Str} (h : sc.names.lookup x = some .cell) : ∃ c, (cellsFrom n sc.names []).lookup x = some c := by
  have q := PySem.W.cellsFrom_some sc.names n [] (.inl h)
  exact Option.isSome_iff_exists.mp q

theorem inv_start {CX : CXT} {P : Program} {w : World} {K : PySem.W.Frag} {mg : Str → Option Value} {base : Heap} {N ps : List Str} {qual : Str} {scope : Scope} {f : Addr} {cd : Value} {A : Around} {outer : List Env} {s s1 : Shared} {H : Hp} {E : XK} {us : List Value} {vs : List V}
    (S : FnScope N ps scope) (hd : A.handled = none) (e0 : Env0 P w K mg base A outer s H) (hl : vs.length = ps.length) (r : Vals vs us)
    (x : InCallC s s.heap.objs.size (bindL (envOfC qual scope s.heap.objs.size f cd).kindOf (ps.zip us) fun _ => none) (cellsFrom (s.heap.objs.size + 1) scope.names []) (bindC (envOfC qual scope s.heap.objs.size f cd).kindOf (ps.zip us) fun _ => none) s1) :
    Inv (cxOf CX P w K mg base N qual scope f cd A outer s H E) [] (start N vs) H s1 := by
  have hpl : ps.length ≤ N.length := by have := congrArg List.length S.pre; rw [List.length_take] at this; omega
  obtain ⟨h1, tk, rfl, hk⟩ := x.done
  have noA : ∀ b : Addr, b ∉ (cxOf CX P w K mg base N qual scope f cd A outer s H E).ex := fun b z => absurd (show b ∈ ([] : List Addr) from z) (by simp)
  refine ⟨⟨e0.mod, S.kind, rfl, rfl, Nat.le_refl _, fun y z c h1 h2 => ?_, fun y hy => ?_, fun y c _ h => ?_, fun _ => hd, Around.frames_deeper e0.frames, .inr ⟨rfl, rfl⟩, fun b z => absurd z (noA b), e0.bs, e0.bsz, fun b _ _ => noA b, fun b z => absurd z (noA b), e0.funs, e0.frf⟩,
    rfl, e0.bare, Un.kept hk, ⟨_, x.toInCall.ns, fun i y v h1 h2 h3 => ?_⟩, fun y c h => ⟨_, x.cell y c h⟩, e0.hok.fresh (Nat.le_refl _), fun y c h => ?_, fun p hp => absurd (show p ∈ ([] : List (Addr × Obj)) from hp) (by simp), e0.hok.kept hk, ?_⟩
  · exact name_of_addr x.apart (PySem.mem_of_lookup h1) (PySem.mem_of_lookup h2)
  · have hy : scope.names.lookup y = some .cell ∨ scope.names.lookup y = some .free := hy
    rcases hy with hy | hy
    · exact cell_has hy
    · exact absurd rfl (S.nofree _ (PySem.mem_of_lookup hy))
  · exact Nat.le_of_lt (x.above y c (PySem.mem_of_lookup h))
  · have hi : i < vs.length := by
      unfold start at h2
      by_cases hi : i < vs.length
      · exact hi
      · rw [List.getElem?_append_right (by simpa using hi)] at h2
        rw [List.getElem?_replicate] at h2
        split at h2 <;> cases h2
    have ha : vs[i]? = some v := by
      unfold start at h2
      rw [List.getElem?_append_left (by simpa using hi), List.getElem?_map] at h2
      cases e : vs[i]? with
      | none => rw [e] at h2; cases h2
      | some a => rw [e] at h2; cases h2; rfl
    obtain ⟨u, hu, rv⟩ := r.get ha
    have hp : ps[i]? = some y := by
      rw [← S.pre, List.getElem?_take_of_lt (by omega)]; exact h1
    have ndP : ps.Nodup := by rw [← S.pre]; exact S.nd.sublist (List.take_sublist _ _)
    refine ⟨u, rv, ?_⟩
    rcases S.par y (List.mem_of_getElem? hp) with k | k
    · exact .inl ⟨k, bindL_get ndP hp hu k⟩
    · obtain ⟨c, e⟩ := cell_has (n := s.heap.objs.size + 1) k
      refine .inr ⟨.inl k, c, e, ?_⟩
      have q := x.cell y c e
      rw [bindC_get ndP hp hu (by show scope.names.lookup y ≠ _; rw [k]; decide)] at q
      exact q
  · exact e0.hok.fresh (Nat.le_of_lt (x.above y c (PySem.mem_of_lookup h)))
  · unfold start
    show _ = N.length
    rw [List.length_append, List.length_map, List.length_replicate]
    omega

/-- THE RULE: a def (or a method) of the text, by its body. The body's reading t is chosen for each entry; it is run at the parameters' values -/
theorem fn_of {CX : CXT} {P : Program} {w : World} {K : PySem.W.Frag} {mg : Str → Option Value} {base : Heap} {k : Nat} {f : Addr} {name qual : Str} {params : Arguments} {body : List Stmt} {scope : Scope} {dV kV doc pm cdv ct oc : Value} {an od : Option Addr}
    {osl : Array (Option Value)} {N ps : List Str} {sp : Sp} (lk : K.lookup f = some ⟨oc, od, .func (PySem.W.fnOf name qual params body scope dV kV doc pm an cdv ct), osl⟩) (hcd : PySem.W.codeIn K cdv qual = true) (S : FnScope N ps scope)
    (len : ∀ vs H Q E, sp vs H Q E → vs.length = ps.length)
    (hbody : ∀ (A : Around) (outer : List Env) (s : Shared) (H : Hp) (vs : List V) (Q : VK) (E : XK), Room k (A.deeper (envOfC qual scope s.heap.objs.size f cdv)) → sp vs H Q E →
      ∃ t, PSs (cxOf CX P w K mg base N qual scope f cdv A outer s H E) body t ∧ t { nx := fun _ H' => Q .non H', rt := Q } (start N vs) H) :
    FnOk P w K mg base CX (k + 1) f (PySem.W.fnOf name qual params body scope dV kV doc pm an cdv ct) ps sp := by
  refine ⟨len, fun A outer s H args us vs Q E hr e0 hb r hsp => ?_⟩
  have hl := len _ _ _ _ hsp
  have KX : K.In s.heap := e0.mod.kin.keeps fun b o e => (e0.bs b o e).1
  have lim : s.heap.NoLimit := e0.mod.nolimit.keeps fun b o e => (e0.bs b o e).1
  have hkind : ∀ y ∈ ps.zip us, scope.names.lookup y.1 = some .local ∨ (scope.names.lookup y.1 = some .cell ∧ ((cellsFrom (s.heap.objs.size + 1) scope.names []).lookup y.1).isSome = true) := fun ⟨n, v⟩ hy => by
    rcases S.par n (List.of_mem_zip hy).1 with q | q
    · exact .inl q
    · exact .inr ⟨q, PySem.W.cellsFrom_some _ _ _ (.inl q)⟩
  refine codeAny_call_function hr.depth (KX _ _ lk) rfl S.co S.gen rfl (PySem.W.codeRec_of KX hcd) (hb _ _ _ _ ?_)
  refine wpAny_newFunctionEnv_cells S.kind hkind fun env he s1 x => ?_
  subst he
  refine ⟨lim.keeps x.toInCall.keep, codeAny_func ?_⟩
  obtain ⟨t, ht, hq⟩ := hbody A outer s H vs Q E (hr.deeper _) hsp
  have I : Inv (cxOf CX P w K mg base N qual scope f cdv A outer s H E) [] (start N vs) H s1 := inv_start S hr.hd e0 hl r x
  refine wpAny_mono (ht [] s1 (start N vs) H _ I hq) (fun fl s' hs => ?_) fun e s' hs => hs
  have fin : ∀ {σ' : St} {H' : Hp} {v : V} {u : Value}, Inv (cxOf CX P w K mg base N qual scope f cdv A outer s H E) [] σ' H' s' → RelV v u → Q v H' → CE outer P w H s Q u s' :=
    fun {σ' H' v u} J rv q => ⟨v, H', J.os, J.bare, J.base, J.hok, rv, q⟩
  cases fl with
  | ret u =>
    obtain ⟨v, σ', H', J, rv, q⟩ := hs
    exact fin J rv q
  | next =>
    obtain ⟨σ', H', J, q⟩ := hs
    exact fin (v := V.non) (u := Value.none) J rfl q
  | brk =>
    obtain ⟨_, _, _, q⟩ := hs
    exact False.elim q
  | cont =>
    obtain ⟨_, _, _, q⟩ := hs
    exact False.elim q
end L2

namespace L2
open PySem PySem.Spec PyProof.Rows
section
variable {X : Cx} {x : Str} {p pos : Pos} {e : Expr} {es : List Expr} {t : TA} {id T : String} {r : List V → Hp → VK → Prop}

def tCB (r : List V → Hp → VK → Prop) (t : TA) : TE := fun σ H Q => t σ H fun vs H1 => r vs H1 Q
/-- f(e, ..), f a built-in function -/
theorem pe_callB (hc : CallR X (.builtin id) r) (hg : Gl X x) (hm : X.mg x = none) (hv : bootBuiltins x = some (.builtin id)) (ha : PA X (e :: es) t) (hn : x ≠ "__name__" := by decide) (hdb : (x == ("__debug__" : Str)) = false := by decide)
    (he : starEach (e :: es) X.env = (false, eval e X.env) :: starEach es X.env := by rfl) (hpl : (backTo pos (starEach es X.env)).any (·.1) = false := by rfl) : PE X (.Call (.Name x p) (e :: es) [] pos) (tCB r t) := by
  intro pins s σ H Q I h
  refine wpAny_Call_Name_kw (ld_blt I hg hm hv ?_ hn hdb)
  exact PyProof.Rows.callWith_builtin1 (thn (ha pos pins s σ H _ I h) fun us s1 ⟨vs, H1, I1, r1, q1⟩ => hc pins s1 σ H1 vs us Q I1 r1 q1) he hpl
/-- T(e, ..), T a built-in type -/
theorem pe_callTy (hc : CallR X (.type T) r) (hg : Gl X x) (hm : X.mg x = none) (hv : bootBuiltins x = some (.type T)) (ha : PA X (e :: es) t) (hn : x ≠ "__name__" := by decide) (hdb : (x == ("__debug__" : Str)) = false := by decide)
    (he : starEach (e :: es) X.env = (false, eval e X.env) :: starEach es X.env := by rfl) (hpl : (backTo pos (starEach es X.env)).any (·.1) = false := by rfl) : PE X (.Call (.Name x p) (e :: es) [] pos) (tCB r t) := by
  intro pins s σ H Q I h
  refine wpAny_Call_Name_kw (ld_blt I hg hm hv ?_ hn hdb)
  exact PyProof.Rows.callWith_type1 (thn (ha pos pins s σ H _ I h) fun us s1 ⟨vs, H1, I1, r1, q1⟩ => hc pins s1 σ H1 vs us Q I1 r1 q1) he hpl
end
end L2

namespace HT
open PySem PyProof.Rows

section
open PySem.SeqAt
open PySem.AutoSeq1 (wpAny_loadPart')
open PySem.MeetsSeq PySem.MeetsSeq2 PySem.MeetsSeq3

end

section
variable {prog : Program} {w : World} {A : Around} {E : Value → Shared → Prop} {s : Shared}

/-- t + u, t not empty -/
theorem cat_tup {t b : Addr} {vs ws : List Value} {Q : Value → Shared → Prop} (ht : IsTup s.heap t vs.toArray) (hb : IsTup s.heap b ws.toArray) (hv : vs ≠ [])
    (h1 : ws = [] → Q (.ref t) s) (h2 : ws ≠ [] → Q (.ref s.heap.objs.size) { s with heap := s.heap.push { cls := .type "tuple", data := .seq (vs ++ ws).toArray } })
    (hsz : vs.length + ws.length ≤ sizeLine) : wpAny (model prog w) A (binaryOp .Add (.ref t) (.ref b)) Q E s := by
  obtain ⟨⟨cls, dd, data, sl⟩, ho, hc, n, hd⟩ := id ht
  obtain ⟨⟨cls2, dd2, data2, sl2⟩, ho2, hc2, n2, hd2⟩ := id hb
  simp only at hc hd hc2 hd2
  subst hc hd hc2 hd2
  have e : vs.toArray ++ ws.toArray = (vs ++ ws).toArray := by simp
  by_cases hw : ws = []
  · exact concat_meets ⟨_, ho, rfl⟩ ⟨_, ho2, rfl⟩ noFill_tuple_add seq_tuple_add PySem.F.slot_tuple_add PySem.F.entry_tuple_add (PySem.F.args_tuple_add_2 _ _)
      (tuple_addW1 t b vs.toArray ws.toArray n n2 dd dd2 sl sl2 (by simpa using hv) (by simp [hw])) ⟨ho, ho2, h1 hw⟩
  · refine concat_meets ⟨_, ho, rfl⟩ ⟨_, ho2, rfl⟩ noFill_tuple_add seq_tuple_add PySem.F.slot_tuple_add PySem.F.entry_tuple_add (PySem.F.args_tuple_add_2 _ _)
      (tuple_addW2 t b vs.toArray ws.toArray n n2 dd dd2 sl sl2 (by simpa using hv) (by simpa using hw) (by rw [List.size_toArray, List.size_toArray]; exact hsz)) ⟨ho, ho2, ?_⟩
    rw [e]
    exact h2 hw

/-! ### t[a:b], not the whole -/
/-- a slice's bound as a place among n (d where it is left out) -/
def sIx (n d : Nat) : Option Int → Nat
  | none => d
  | some v => if v < 0 then (v + (n : Int)).toNat else min v.toNat n
end
end HT

namespace L2
open PySem PySem.Spec PyProof.Rows

/-! ### the parts of a slice -/
abbrev TO := St → Hp → (Option Int → Hp → Prop) → Prop
def tNoPart : TO := fun _ H Q => Q none H
def tPart (t : TE) : TO := fun σ H Q => t σ H fun x H1 => ∃ i, x = .int i ∧ Q (some i) H1

section
variable {X : Cx} {e : Expr} {te : TE} {lo hi : Option Expr} {tl th : TO} {pos p2 : Pos}

/-- what a slice of a value is, by values: the slice object stands at sl -/
def SlR (X : Cx) (r : V → Option Int → Option Int → Hp → VK → Prop) : Prop :=
  ∀ (pins : List (Addr × Obj)) (s : Shared) (σ : St) (H : Hp) (x : V) (v vl vu : Value) (lo hi : Option Int) (sl : Addr) (Q : VK), Inv X pins σ H s → RelV x v → s.heap.IsSliceOf sl vl vu .none → IsPart vl lo → IsPart vu hi → r x lo hi H Q →
    ∃ T id, typeLookup (.type T) "__getitem__" = pure (some (.builtin id)) ∧ s.TypeIs v T ∧ wpAny (model X.prog X.w) X.A (getItem v (.ref sl)) (EP X pins σ Q) X.xe s
theorem SlR.or {r r' : V → Option Int → Option Int → Hp → VK → Prop} (h : SlR X r) (h' : SlR X r') : SlR X (fun x lo hi H Q => r x lo hi H Q ∨ r' x lo hi H Q) := by
  intro pins s σ H x v vl vu lo hi sl Q I rx hs pl pu q
  rcases q with q | q
  · exact h pins s σ H x v vl vu lo hi sl Q I rx hs pl pu q
  · exact h' pins s σ H x v vl vu lo hi sl Q I rx hs pl pu q
def tSl (r : V → Option Int → Option Int → Hp → VK → Prop) (te : TE) (tl th : TO) : TE := fun σ H Q => te σ H fun x H1 => tl σ H1 fun l H2 => th σ H2 fun u H3 => r x l u H3 Q
/-- the items of xs[lo:hi] -/
def cutV (xs : List V) (lo hi : Option Int) : List V := (xs.drop (HT.sIx xs.length 0 lo)).take (HT.sIx xs.length xs.length hi - HT.sIx xs.length 0 lo)
/-! ### t < u, t + u -/
/-- t + u, t not empty: u empty gives t itself -/
def rCatT (K : PySem.W.Frag) : R2 := fun x y H Q => ∃ a b xs ys, x = .ref a ∧ y = .ref b ∧ SqT K H a xs ∧ SqT K H b ys ∧ xs ≠ [] ∧ xs.length + ys.length ≤ sizeLine ∧
  (ys = [] → Q (.ref a) H) ∧ (ys ≠ [] → ∀ p, H p = none → Q (.ref p) (upd H p (.tup (xs ++ ys))))
theorem Vals.nil_iff {xs : List V} {us : List Value} (r : Vals xs us) : us = [] ↔ xs = [] := by
  cases r with
  | nil => simp
  | cons _ _ => simp
theorem op_catT : OpR X (binaryOp .Add) (rCatT X.K) := by
  intro pins s σ H x y v u Q I rx ry h
  obtain ⟨a, b, xs, ys, rfl, rfl, ha, hb, hx, hz, q1, q2⟩ := h
  cases rx
  cases ry
  obtain ⟨its, r1, p1, _⟩ := I.tuple ha
  obtain ⟨its2, r2, p2, _⟩ := I.tuple hb
  refine HT.cat_tup p1 p2 (fun z => hx (r1.nil_iff.mp z)) (fun z => ⟨.ref a, H, I, rfl, q1 (r2.nil_iff.mp z)⟩) (fun z => ?_) (by rw [← r1.length, ← r2.length]; exact hz)
  refine ⟨.ref s.heap.objs.size, _, I.laid (t' := s.toks) (o := .tup (xs ++ ys)) (fun b ob q => Heap.get?_push_of_some _ q) (Nat.le_refl _) ?_, rfl, q2 (fun w => z (r2.nil_iff.mpr w)) _ (I.hok.fresh (Nat.le_refl _))⟩
  exact ⟨by rw [List.length_append]; exact hz, _, r1.append r2, IsTup.new _ _⟩
end
end L2

namespace L2
open PySem PySem.Spec PyProof.Rows

/-! ### places -/
/-- the place that an index of any sign means -/
def ixN (n : Nat) (i : Int) : Option Nat := if 0 ≤ i then (if i < n then some i.toNat else none) else if -(n : Int) ≤ i then some (i + n).toNat else none
def atI {α : Type} (xs : List α) (i : Int) : Option α := (ixN xs.length i).bind fun j => xs[j]?
theorem ixN_seq {n : Nat} {i : Int} {j : Nat} (h : ixN n i = some j) : seqIndex? i n = some j ∧ j < n ∧ -(n : Int) ≤ i ∧ i < n := by
  unfold ixN at h
  by_cases h0 : 0 ≤ i
  · rw [if_pos h0] at h
    by_cases h1 : i < n
    · rw [if_pos h1] at h
      have e : i.toNat = j := Option.some.inj h
      exact ⟨by rw [seqIndex_of h0 h1, e], by omega, by omega, h1⟩
    · rw [if_neg h1] at h; cases h
  · rw [if_neg h0] at h
    by_cases h1 : -(n : Int) ≤ i
    · rw [if_pos h1] at h
      have e : (i + n).toNat = j := Option.some.inj h
      exact ⟨by rw [seqIndex_neg (by omega) h1, e], by omega, h1, by omega⟩
    · rw [if_neg h1] at h; cases h
theorem atI_get {α : Type} {xs : List α} {i : Int} {v : α} (h : atI xs i = some v) : ∃ j, seqIndex? i xs.length = some j ∧ xs[j]? = some v ∧ j < xs.length ∧ -(xs.length : Int) ≤ i ∧ i < xs.length := by
  unfold atI at h
  cases e : ixN xs.length i with
  | none => rw [e] at h; cases h
  | some j =>
    rw [e] at h
    obtain ⟨h1, h2, h3, h4⟩ := ixN_seq e
    exact ⟨j, h1, h, h2, h3, h4⟩
theorem atI_nat {α : Type} {xs : List α} {j : Nat} {v : α} (h : xs[j]? = some v) : atI xs (j : Int) = some v := by
  have hj : j < xs.length := (List.getElem?_eq_some_iff.mp h).1
  have e : ixN xs.length (j : Int) = some j := by
    unfold ixN
    rw [if_pos (by omega), if_pos (by omega)]; simp
  unfold atI; rw [e]; exact h
/-! ### what may be subscripted -/
/-- what stands as an index of a plain subscript -/
def PlainIx (b : Expr) : Prop := ∀ o i, subscripted b false o i = operate [o, i] (getItem o i)
/-- a subscript by values -/
def IxR (X : Cx) (r : R2) : Prop :=
  ∀ (value slice : Expr) (pins : List (Addr × Obj)) (s : Shared) (σ : St) (H : Hp) (x y : V) (v u : Value) (Q : VK), Inv X pins σ H s → RelV x v → RelV y u → r x y H Q →
    subscripted slice false v u = operate [v, u] (getItem v u) → wpAny (model X.prog X.w) X.A (subscriptTail value slice v u) (EP X pins σ Q) X.xe s
/-- a call of a builtin's method by values: the receiver, the arguments -/
def MtR (X : Cx) (id : String) (r : V → List V → Hp → VK → Prop) : Prop :=
  ∀ (pins : List (Addr × Obj)) (s : Shared) (σ : St) (H : Hp) (x : V) (xs : List V) (v : Value) (us : List Value) (Q : VK), Inv X pins σ H s → RelV x v → Vals xs us → r x xs H Q →
    wpAny (model X.prog X.w) X.A (call (.builtin id) (v :: us)) (EP X pins σ Q) X.xe s
section
variable {X : Cx} {a b : Expr} {ta tb : TE} {pos : Pos}
theorem IxR.or {r r' : R2} (h : IxR X r) (h' : IxR X r') : IxR X (fun x y H Q => r x y H Q ∨ r' x y H Q) := by
  intro value slice pins s σ H x y v u Q I rx ry q hs
  rcases q with q | q
  · exact h value slice pins s σ H x y v u Q I rx ry q hs
  · exact h' value slice pins s σ H x y v u Q I rx ry q hs
theorem MtR.or {id : String} {r r' : V → List V → Hp → VK → Prop} (h : MtR X id r) (h' : MtR X id r') : MtR X id (fun x xs H Q => r x xs H Q ∨ r' x xs H Q) := by
  intro pins s σ H x xs v us Q I rx rs q
  rcases q with q | q
  · exact h pins s σ H x xs v us Q I rx rs q
  · exact h' pins s σ H x xs v us Q I rx rs q
/-- a[b] -/
theorem pe_ix {r : R2} (hr : IxR X r) (ha : PE X a ta) (hb : PE X b tb) (hs : PlainIx b) : PE X (.Subscript a b pos) (tOp r ta tb) := by
  intro pins s σ H Q I h
  exact Subscript_ (binT ha hb I h fun v u s2 x y H2 I2 rx ry q => hr a b pins s2 σ H2 x y v u Q I2 rx ry q (hs _ _))

def rIxL (K : PySem.W.Frag) : R2 := fun x y H Q => ∃ p xs i v, x = .ref p ∧ y = .int i ∧ SqL K H p xs ∧ atI xs i = some v ∧ Q v H
def rIxT (K : PySem.W.Frag) : R2 := fun x y H Q => ∃ p xs i v, x = .ref p ∧ y = .int i ∧ SqT K H p xs ∧ atI xs i = some v ∧ Q v H
theorem ix_list : IxR X (rIxL X.K) := by
  intro value slice pins s σ H x y v u Q I rx ry h hs
  obtain ⟨p, xs, i, z, rfl, rfl, hq, he, q⟩ := h
  cases rx
  obtain ⟨t, rfl⟩ := ry
  obtain ⟨its, r, pl, hz⟩ := I.list hq
  obtain ⟨j, h1, h2, h3, h4, h5⟩ := atI_get he
  obtain ⟨w, ew, rw'⟩ := r.get h2
  have hl := r.length
  have hn := line63
  have fin : EP X pins σ Q w s := ⟨z, H, I, rw', q⟩
  by_cases h0 : 0 ≤ i
  · have hj : i.toNat = j := by
      rw [seqIndex_of h0 h5] at h1
      exact Option.some.inj h1
    exact item_listR pl.isList h0 (by omega) (by rw [hj]; simpa using ew) fin hs
  · have hj : (i + (its.toArray.size : Int)).toNat = j := by
      rw [seqIndex_neg (by omega) h4] at h1
      rw [List.size_toArray, ← hl]
      exact Option.some.inj h1
    exact subscriptTail_builtinR (x := w) pl.isList.typeIs slot_list_getitem.lookup
      (wpAny_getItem_list_neg (Q := fun r s' => r = w ∧ EP X pins σ Q r s') pl.isList (by omega) (by rw [List.size_toArray] <;> omega) (by omega) (by rw [hj]; simpa using ew) ⟨rfl, fin⟩) hs
theorem ix_tup : IxR X (rIxT X.K) := by
  intro value slice pins s σ H x y v u Q I rx ry h hs
  obtain ⟨p, xs, i, z, rfl, rfl, hq, he, q⟩ := h
  cases rx
  obtain ⟨t, rfl⟩ := ry
  obtain ⟨its, r, pl, hz⟩ := I.tuple hq
  obtain ⟨j, h1, h2, h3, h4, h5⟩ := atI_get he
  obtain ⟨w, ew, rw'⟩ := r.get h2
  have hl := r.length
  have hn := line63
  have fin : EP X pins σ Q w s := ⟨z, H, I, rw', q⟩
  exact subscriptTail_builtinR (x := w) pl.typeIs slot_tuple_getitem.lookup
    (getItem_tuple (j := j) (Q := fun r s' => r = w ∧ EP X pins σ Q r s') pl (by omega) (by omega) (by rw [List.size_toArray, ← hl]; exact h1) (by simpa using ew) ⟨rfl, fin⟩) hs
/-! ### xs[i] = v, any sign -/
/-- the list's object behind a store -/
theorem mapSeq_set (its : List Value) (n j : Nat) (u : Value) : Obj.mapSeq (·.setIfInBounds j u) { cls := .type "list", data := .seq its.toArray n } = { cls := .type "list", data := .seq (its.set j u).toArray n } := by
  simp [Obj.mapSeq]
theorem Inv.lst {pins : List (Addr × Obj)} {σ : St} {H : Hp} {s : Shared} {p : Addr} {xs : List V} (I : Inv X pins σ H s) (h : H p = some (.lst xs)) :
    ∃ (its : List Value) (n : Nat), Vals xs its ∧ s.heap.get? p = some { cls := .type "list", data := .seq its.toArray n } ∧ xs.length ≤ sizeLine := by
  obtain ⟨z, its, n, r, e⟩ := I.hok p _ h
  exact ⟨its, n, r, e, z⟩
/-- the list at p is written by an update of its object -/
theorem Inv.lstUpd {pins : List (Addr × Obj)} {σ : St} {H : Hp} {s : Shared} {p : Addr} {xs ys : List V} {its its' : List Value} {n n' : Nat} {f : Obj → Obj} (I : Inv X pins σ H s) (h : H p = some (.lst xs))
    (ho : s.heap.get? p = some { cls := .type "list", data := .seq its.toArray n }) (hf : f { cls := .type "list", data := .seq its.toArray n } = { cls := .type "list", data := .seq its'.toArray n' }) (r : Vals ys its') (hz : ys.length ≤ sizeLine) (t : Nat) :
    Inv X pins σ (upd H p (.lst ys)) { s with heap := s.heap.update p f, toks := t } := by
  have e : (s.heap.update p f).get? p = some { cls := .type "list", data := .seq its'.toArray n' } := by
    rw [Heap.get?_update_self f ho (by rw [hf] <;> rfl), hf]
  refine I.write (x := p) (e := p) (by rw [h]; trivial) (.inl rfl) (fun b u hb q => (Heap.get?_update_other _ _ (Ne.symm hb)).trans q) ⟨_, e⟩ ?_
  exact ⟨hz, its', n', r, e⟩
def rSetL : V → V → V → Hp → (Hp → Prop) → Prop := fun o i v H Q => ∃ p xs k j, o = .ref p ∧ i = .int k ∧ H p = some (.lst xs) ∧ ixN xs.length k = some j ∧ Q (upd H p (.lst (xs.set j v)))
theorem set_list : PSet X rSetL := by
  intro pins s σ H o i v ov iv u Q I ro ri rv h
  obtain ⟨p, xs, k, j, rfl, rfl, hp, hj, q⟩ := h
  cases ro
  obtain ⟨t, rfl⟩ := ri
  obtain ⟨its, n, r, ho, hz⟩ := I.lst hp
  obtain ⟨h1, h2, h3, h4⟩ := ixN_seq hj
  have hl := r.length
  have hn := line63
  have I' : Inv X pins σ (upd H p (.lst (xs.set j v))) { s with heap := s.heap.update p (Obj.mapSeq (·.setIfInBounds j u)) } :=
    I.lstUpd hp ho (mapSeq_set its n j u) (r.set rv j) (by rw [List.length_set]; exact hz) s.toks
  by_cases h0 : 0 ≤ k
  · have hk : k.toNat = j := by
      rw [seqIndex_of h0 h4] at h1
      exact Option.some.inj h1
    exact PySem.W.ki_setAt ho h0 (by omega) (by rw [List.size_toArray, ← hl]; exact h4) (by rw [hk]; exact ⟨_, I', q⟩)
  · have hk : (k + (its.toArray.size : Int)).toNat = j := by
      rw [seqIndex_neg (by omega) h3] at h1
      rw [List.size_toArray, ← hl]
      exact Option.some.inj h1
    exact PySem.W.ki_setBack ho (by omega) (by rw [List.size_toArray, ← hl]; exact h3) (by omega) (by rw [hk]; exact ⟨_, I', q⟩)

/-! ### slices -/
/-! ### in, not in: flat items -/
/-! ### len, list(x), tuple(x) of any list or tuple that is read -/
theorem call_len_seq : CallR X (.builtin "len") (fun xs H Q => ∃ p ys, xs = [.ref p] ∧ (SqL X.K H p ys ∨ SqT X.K H p ys) ∧ Q (.int ys.length) H) := by
  intro pins s σ H xs us Q I r h
  obtain ⟨p, ys, rfl, hq, q⟩ := h
  obtain ⟨u, rfl, rx⟩ := vals1 r
  cases rx
  have hn := line63
  rcases hq with hq | hq
  · obtain ⟨its, r', pl, hz⟩ := I.list hq
    have hlen := r'.length
    exact Calls.call_len_list pl.isList (by simp only [List.size_toArray] <;> omega) ⟨.int ys.length, H, I.tok _, ⟨s.toks + 1, by rw [List.size_toArray, hlen]⟩, q⟩
  · obtain ⟨its, r', pl, hz⟩ := I.tuple hq
    have hlen := r'.length
    exact len_tuple pl (by simp only [List.size_toArray] <;> omega) ⟨.int ys.length, H, I.tok _, ⟨s.toks + 1, by rw [List.size_toArray, hlen]⟩, q⟩
theorem CallR.or {f : Value} {r r' : List V → Hp → VK → Prop} (h : CallR X f r) (h' : CallR X f r') : CallR X f (fun xs H Q => r xs H Q ∨ r' xs H Q) := by
  intro pins s σ H xs us Q I rs q
  rcases q with q | q
  · exact h pins s σ H xs us Q I rs q
  · exact h' pins s σ H xs us Q I rs q
theorem call_list_of : CallR X (.type "list") (fun xs H Q => ∃ p ys, xs = [.ref p] ∧ (SqL X.K H p ys ∨ SqT X.K H p ys) ∧ ∀ l, H l = none → Q (.ref l) (upd H l (.lst ys))) := by
  intro pins s σ H xs us Q I r h
  obtain ⟨p, ys, rfl, hq, q⟩ := h
  obtain ⟨u, rfl, rx⟩ := vals1 r
  cases rx
  have fin : ∀ (its : List Value), Vals ys its → ys.length ≤ sizeLine → ∀ (h' : Heap) (c' : Nat), (∀ b o', s.heap.get? b = some o' → h'.get? b = some o') →
      h'.get? s.heap.objs.size = some { cls := .type "list", dict := none, data := .seq its.toArray c', slots := #[] } → EP X pins σ Q (.ref s.heap.objs.size) { s with heap := h' } := fun its r' hz h' c' kp e =>
    ⟨.ref s.heap.objs.size, _, I.laid (t' := s.toks) kp (Nat.le_refl _) (show ObjOk X.prog X.w _ h' _ (.lst ys) from ⟨hz, its, c', r', e⟩), rfl, q _ (I.hok.fresh (Nat.le_refl _))⟩
  rcases hq with hq | hq
  · obtain ⟨its, r', pl, hz⟩ := I.list hq
    have hlen := r'.length
    obtain ⟨o, ho, hc, n, hd⟩ := pl.isList
    exact call_list_seq p (.inl rfl) ho hc hd (fun h' c' kp e => fin its r' hz h' c' kp e) (by simp only [List.size_toArray] <;> omega)
  · obtain ⟨its, r', pl, hz⟩ := I.tuple hq
    have hlen := r'.length
    obtain ⟨o, ho, hc, n, hd⟩ := pl
    exact call_list_seq p (.inr rfl) ho hc hd (fun h' c' kp e => fin its r' hz h' c' kp e) (by simp only [List.size_toArray] <;> omega)
theorem call_tuple_of : CallR X (.type "tuple") (fun xs H Q => ∃ p ys, xs = [.ref p] ∧ ((SqL X.K H p ys ∧ ∀ l, H l = none → Q (.ref l) (upd H l (.tup ys))) ∨ (SqT X.K H p ys ∧ Q (.ref p) H))) := by
  intro pins s σ H xs us Q I r h
  obtain ⟨p, ys, rfl, h⟩ := h
  obtain ⟨u, rfl, rx⟩ := vals1 r
  cases rx
  rcases h with ⟨hq, q⟩ | ⟨hq, q⟩
  · obtain ⟨its, r', pl, hz⟩ := I.list hq
    have hlen := r'.length
    refine call_tuple_list pl.isList (fun h' kp => ?_) (by simp only [List.size_toArray] <;> omega)
    have I1 : Inv X pins σ H { s with heap := h' } := I.kept (t' := s.toks) kp
    have I2 : Inv X pins σ (upd H h'.objs.size (.tup ys)) { s with heap := h'.push { cls := .type "tuple", data := .seq its.toArray } } :=
      I1.laid (t' := s.toks) (fun b o e => Heap.get?_push_of_some _ e) (Nat.le_refl _) (show ObjOk X.prog X.w _ _ _ (.tup ys) from ⟨hz, its, r', IsTup.new _ _⟩)
    exact ⟨.ref h'.objs.size, _, I2, rfl, q _ (I1.hok.fresh (Nat.le_refl _))⟩
  · obtain ⟨its, r', pl, hz⟩ := I.tuple hq
    exact call_tuple_same pl ⟨.ref p, H, I, rfl, q⟩

/-! ### the call of a builtin's method: o.m(..) -/
/-- the value is of that builtin type -/
def tyV (K : PySem.W.Frag) (T : String) (x : V) (H : Hp) : Prop := match x with
  | .str _ => T = "str"
  | .int _ => T = "int"
  | .ref p => (T = "list" ∧ ∃ xs, SqL K H p xs) ∨ (T = "tuple" ∧ ∃ o, K.lookup p = some o ∧ o.cls = .type "tuple" ∧ o.dict = none) ∨
      (T = "dict" ∧ ((∃ kvs, H p = some (.dK kvs)) ∨ ∃ kvs, H p = some (.dT kvs))) ∨ (T = "set" ∧ ∃ S n, H p = some (.set S n))
  | _ => False
theorem tyV_is {pins : List (Addr × Obj)} {σ : St} {H : Hp} {s : Shared} {T : String} {x : V} {v : Value} (I : Inv X pins σ H s) (r : RelV x v) (ty : tyV X.K T x H) :
    s.TypeIs v T ∧ ∀ a, v = .ref a → ∃ ob, s.heap.get? a = some ob ∧ ob.dict = none := by
  cases x with
  | str z =>
    obtain ⟨t, rfl⟩ := r
    cases (show T = "str" from ty)
    exact ⟨typeIs_str s z t, fun _ e => nomatch e⟩
  | int i =>
    obtain ⟨t, rfl⟩ := r
    cases (show T = "int" from ty)
    exact ⟨typeIs_int s i t, fun _ e => nomatch e⟩
  | ref p =>
    cases r
    rcases ty with ⟨rfl, xs, hq⟩ | ⟨rfl, o, hk, hc, hd⟩ | ⟨rfl, hk⟩ | ⟨rfl, S, n, hk⟩
    · obtain ⟨its, _, pl, _⟩ := I.list hq
      refine ⟨pl.isList.typeIs, fun a e => ?_⟩
      cases e
      obtain ⟨o, n, e, c, hd, _⟩ := pl
      exact ⟨o, e, hd⟩
    · refine ⟨⟨o, I.kIn p o hk, hc⟩, fun a e => ?_⟩
      cases e
      exact ⟨o, I.kIn _ o hk, hd⟩
    · have z : ∃ o, s.heap.get? p = some o ∧ o.ExactDict := by
        rcases hk with ⟨kvs, hk⟩ | ⟨kvs, hk⟩
        · obtain ⟨_, _, _, _, o, _, _, e, ex, _⟩ := I.hok p _ hk
          exact ⟨o, e, ex⟩
        · obtain ⟨_, _, _, _, o, _, _, e, ex, _⟩ := I.hok p _ hk
          exact ⟨o, e, ex⟩
      obtain ⟨o, e, ex⟩ := z
      refine ⟨⟨o, e, ex.1⟩, fun a e2 => ?_⟩
      cases e2
      exact ⟨o, e, ex.2.1⟩
    · obtain ⟨o, _, _, _, e, ex, _⟩ := I.hok p _ hk
      refine ⟨⟨o, e, ex.1⟩, fun a e2 => ?_⟩
      cases e2
      exact ⟨o, e, ex.2.1⟩
  | _ => exact False.elim ty
def tBM0 (K : PySem.W.Frag) (T : String) (r : V → List V → Hp → VK → Prop) (to : TE) : TE := fun σ H Q => to σ H fun x H1 => tyV K T x H1 ∧ r x [] H1 Q
def tBM (K : PySem.W.Frag) (T : String) (r : V → List V → Hp → VK → Prop) (to : TE) (t : TA) : TE := fun σ H Q => to σ H fun x H1 => tyV K T x H1 ∧ t σ H1 fun xs H2 => r x xs H2 Q
variable {o e : Expr} {es : List Expr} {to : TE} {t : TA} {name : Str} {apos cpos : Pos} {T id : String} {r : V → List V → Hp → VK → Prop}
theorem pe_bm0 (pa : PlainAttrs T) (slot : Slot T name id) (hty : typeOf (.builtin id) = pure (.type "method_descriptor")) (hm : MtR X id r) (ho : PE X o to)
    (hbase : attributeBase o name X.env (eval o X.env) = eval o X.env := by rfl) (hline : (apos.endLine == cpos.line) = true := by rfl) : PE X (.Call (.Attribute o name apos) [] [] cpos) (tBM0 X.K T r to) := by
  intro pins s σ H Q I h
  refine wpAny_Call_method0_late hbase hline (thn (ho pins s σ H _ I h) fun v s1 ⟨x, H1, I1, r1, ty, q1⟩ => ?_)
  obtain ⟨h1, h2⟩ := tyV_is I1 r1 ty
  exact ⟨T, id, pa, slot, hty, h1, h2, Calls.callWith_builtin rfl (PySem.evalArgs_none (hm pins s1 σ H1 x [] v [] Q I1 r1 .nil q1))⟩
theorem pe_bm (pa : PlainAttrs T) (slot : Slot T name id) (hty : typeOf (.builtin id) = pure (.type "method_descriptor")) (hm : MtR X id r) (ho : PE X o to) (ha : PA X (e :: es) t)
    (hbase : attributeBase o name X.env (eval o X.env) = eval o X.env := by rfl)
    (hfew : ((backTo cpos (starEach (e :: es) X.env)).all (fun x => !x.1) && (backToKw cpos (keywordEach [] X.env)).all (fun x => x.1.isSome)
      && decide ((e :: es).length + ([] : List Keyword).length + (if ([] : List Keyword).isEmpty then 0 else 1) < 30)) = true := by rfl)
    (hline : (apos.endLine == cpos.line) = true := by rfl) (hs : starEach (e :: es) X.env = (false, eval e X.env) :: starEach es X.env := by rfl) (hplain : (backTo cpos (starEach es X.env)).any (·.1) = false := by rfl) :
    PE X (.Call (.Attribute o name apos) (e :: es) [] cpos) (tBM X.K T r to t) := by
  intro pins s σ H Q I h
  refine wpAny_Call_method_late hbase hfew hline rfl (thn (ho pins s σ H _ I h) fun v s1 ⟨x, H1, I1, r1, ty, q1⟩ => ?_)
  obtain ⟨h1, h2⟩ := tyV_is I1 r1 ty
  refine ⟨T, id, pa, slot, hty, h1, h2, ?_⟩
  have hA := ha cpos pins s1 σ H1 _ I1 q1
  rw [hs] at hA ⊢
  refine Calls.callWith_builtin (by show (false || (backTo cpos (starEach es X.env)).any (·.1)) = false; rw [hplain] <;> rfl) (Calls.evalArgs_plain ?_)
  exact thn hA fun us s2 ⟨vs, H2, I2, r2, q2⟩ => hm pins s2 σ H2 x vs v us Q I2 r1 r2 q2
/- xs.append(e), list.index on a module's tuple .. are MtR facts of 06m -/
end
end L2

namespace L2
open PySem PySem.Spec PyProof.Rows

def MtM (X : Cx) (id : String) (r : V → List V → Hp → VK → Prop) : Prop :=
  ∀ (pins : List (Addr × Obj)) (s : Shared) (σ : St) (H : Hp) (x : V) (xs : List V) (v : Value) (us : List Value) (Q : VK), Inv X pins σ H s → RelV x v → Vals xs us → r x xs H Q →
    wpAny (model X.prog X.w) X.A (call (.builtin id) (v :: us)) (EP X pins σ Q) X.xe s

/-! ### lists of values -/
theorem Vals.one : ∀ {x : V} {us : List Value}, Vals [x] us → ∃ u, us = [u] ∧ RelV x u
  | _, _, .cons r .nil => ⟨_, rfl, r⟩
theorem Vals.two : ∀ {x y : V} {us : List Value}, Vals [x, y] us → ∃ u v, us = [u, v] ∧ RelV x u ∧ RelV y v
  | _, _, _, .cons r (.cons q .nil) => ⟨_, _, rfl, r, q⟩
theorem Vals.zero : ∀ {us : List Value}, Vals [] us → us = []
  | _, .nil => rfl
theorem Vals.dropLast {xs : List V} {us : List Value} (h : Vals xs us) : Vals xs.dropLast us.dropLast := by
  induction h with
  | nil => exact .nil
  | cons r t ih =>
    cases t with
    | nil => exact .nil
    | cons q t' => exact .cons r ih
theorem Vals.reverse {xs : List V} {us : List Value} (h : Vals xs us) : Vals xs.reverse us.reverse := by
  induction h with
  | nil => exact .nil
  | cons r t ih => rw [List.reverse_cons, List.reverse_cons]; exact Vals.append ih (.cons r .nil)
section
variable {X : Cx} {pins : List (Addr × Obj)} {σ : St} {H : Hp} {s : Shared} {l b : Addr} {xs ys zs : List V}

/-! ### the two steps: a tracked list is rewritten, a new list is laid -/
theorem Inv.lset {its its' : List Value} {n : Nat} {f : Array Value → Array Value} {t' : Nat} (I : Inv X pins σ H s) (hH : H l = some (.lst xs))
    (e : s.heap.get? l = some { cls := .type "list", data := .seq its.toArray n }) (hf : f its.toArray = its'.toArray) (hv : Vals ys its') (hz : ys.length ≤ sizeLine) :
    Inv X pins σ (upd H l (.lst ys)) { s with heap := s.heap.update l (Obj.mapSeq f), toks := t' } := by
  have q := PySem.IsL.update e f
  rw [hf] at q
  refine I.write (x := l) (e := l) (by rw [hH]; exact trivial) (.inl rfl) (fun b' u hb hu => (Heap.get?_update_other s.heap (Obj.mapSeq f) (Ne.symm hb)).trans hu) ⟨_, q⟩ ?_
  exact ⟨hz, its', _, hv, q⟩
theorem Inv.lnew {its : List Value} {t' : Nat} (I : Inv X pins σ H s) (hv : Vals ys its) (hz : ys.length ≤ sizeLine) :
    Inv X pins σ (upd H s.heap.objs.size (.lst ys)) { s with heap := s.heap.push { cls := .type "list", data := .seq its.toArray }, toks := t' } :=
  I.laid (fun _ _ q => Heap.get?_push_of_some _ q) (Nat.le_refl _) ⟨hz, its, 0, hv, Heap.get?_push_size _ rfl⟩
theorem Inv.fresh (I : Inv X pins σ H s) : H s.heap.objs.size = none := I.hok.fresh (Nat.le_refl _)
theorem Inv.lstM (I : Inv X pins σ H s) (hH : H l = some (.lst xs)) : xs.length ≤ sizeLine ∧ ∃ (its : List Value) (n : Nat), Vals xs its ∧ xs.length = its.length ∧ s.heap.get? l = some { cls := .type "list", data := .seq its.toArray n } := by
  obtain ⟨z, its, n, r, e⟩ := I.hok l _ hH
  exact ⟨z, its, n, r, r.length, e⟩

end

section
variable {X : Cx}

/-! ### methods -/
def rAppend : V → List V → Hp → VK → Prop := fun x vs H Q => ∃ l xs y, x = .ref l ∧ vs = [y] ∧ H l = some (.lst xs) ∧ xs.length < sizeLine ∧ Q .non (upd H l (.lst (xs ++ [y])))
theorem mt_append : MtM X "list.append" rAppend := by
  intro pins s σ H x vs v us Q I rx rv h
  obtain ⟨l, xs, y, rfl, rfl, hH, hz, q⟩ := h
  cases rx
  obtain ⟨u, rfl, ru⟩ := rv.one
  obtain ⟨z, its, n, r, hl, e⟩ := I.lstM hH
  refine call_meets F.slot_list_append ⟨_, e, rfl⟩ F.entry_list_append (F.args_list_append_2 _ _) (PySem.list_append l its.toArray n u (by rw [List.size_toArray]; omega)) ⟨e, ?_⟩
  refine ⟨.non, _, I.lset (its' := its ++ [u]) hH e (by simp) (r.append (.cons ru .nil)) ?_, rfl, q⟩
  rw [List.length_append, List.length_singleton]
  omega

def rPop : V → List V → Hp → VK → Prop := fun x vs H Q => ∃ l xs y, x = .ref l ∧ vs = [] ∧ H l = some (.lst xs) ∧ xs[xs.length - 1]? = some y ∧ Q y (upd H l (.lst xs.dropLast))
def rReverse : V → List V → Hp → VK → Prop := fun x vs H Q => ∃ l xs, x = .ref l ∧ vs = [] ∧ H l = some (.lst xs) ∧ Q .non (upd H l (.lst xs.reverse))
theorem mt_reverse : MtM X "list.reverse" rReverse := by
  intro pins s σ H x vs v us Q I rx rv h
  obtain ⟨l, xs, rfl, rfl, hH, q⟩ := h
  cases rx
  have hus := rv.zero
  subst hus
  obtain ⟨z, its, n, r, hl, e⟩ := I.lstM hH
  refine call_meets F.slot_list_reverse ⟨_, e, rfl⟩ F.entry_list_reverse (F.args_list_reverse_1 _) (AutoSeq1.list_reverse_list_0 l its.toArray n (by rw [List.size_toArray]; omega)) ⟨e, ?_⟩
  refine ⟨.non, _, I.lset (its' := its.reverse) hH e (by simp) r.reverse ?_, rfl, q⟩
  rw [List.length_reverse]
  omega

/-! ### list + list, list += list, list * int -/
def rCat : R2 := fun x y H Q => ∃ l b xs zs, x = .ref l ∧ y = .ref b ∧ H l = some (.lst xs) ∧ H b = some (.lst zs) ∧ xs.length + zs.length ≤ sizeLine ∧ ∀ p, H p = none → Q (.ref p) (upd H p (.lst (xs ++ zs)))
theorem op_cat : OpR X (binaryOp .Add) rCat := by
  intro pins s σ H x y v u Q I rx ry h
  obtain ⟨l, b, xs, zs, rfl, rfl, hH, hB, hz, q⟩ := h
  cases rx
  cases ry
  obtain ⟨z, its, n, r, hl, e⟩ := I.lstM hH
  obtain ⟨z2, its2, n2, r2, hl2, e2⟩ := I.lstM hB
  refine PySem.P.add_list e e2 ?_ (by rw [List.size_toArray, List.size_toArray]; omega)
  have ea : its.toArray ++ its2.toArray = (its ++ its2).toArray := by simp
  rw [ea]
  exact ⟨.ref _, _, I.lnew (t' := s.toks) (r.append r2) (by rw [List.length_append]; omega), rfl, q _ I.fresh⟩
/-! ### del xs[i] -/
end

/-! ### xs[a:b] = ys -/
section
variable {prog : Program} {w : World} {A : Around} {E : Value → Shared → Prop} {s : Shared}
set_option maxRecDepth 100000 in
end

section
variable {X : Cx}
end
end L2

namespace Att
open PySem PySem.W PySem.Calls PyProof.Rows

/-! ### the script -/
theorem ints_of_wellAll {P : Params} {h : Heap} : ∀ (ns : List Int) (vs : List Value), WellAll P h vs (ns.map WData.int) → IntsAre vs ns := by
  intro ns
  induction ns with
  | nil =>
    intro vs w
    rw [List.map_nil] at w
    cases w
    exact .nil
  | cons n ns ih =>
    intro vs w
    rw [List.map_cons] at w
    cases w with
    | cons a b =>
      cases a
      exact .cons _ _ (ih _ b)

theorem script_of {l : OpenLaw} {n : Nat} (hn : l.most = some n) {P : Params} {h : Heap} {args : List WData} {vals : List Value}
    (hpre : l.row.toRowW.claim.pre args = true) (hwl : WellAll P h vals args) :
    ∃ a vs ns, vals = [Value.ref a] ∧ args = [WData.list (ns.map WData.int)] ∧ h.get? a = some { cls := .type "list", data := .seq vs.toArray } ∧ IntsAre vs ns ∧ ns.length ≤ n := by
  have hsh : WShape.hasAll [] args [.list .int] = true := (pre_splitW hpre).1
  have hc : l.pre.holds [] { args := args } = true := (pre_splitW hpre).2
  obtain ⟨d, r, rfl, h1, h2⟩ := hasAllW_cons hsh
  obtain rfl := hasAllW_nil h2
  obtain ⟨xs, rfl, h3⟩ := hasW_list h1
  obtain ⟨ns, rfl⟩ := items_int h3
  have hlen : ns.length ≤ n := by
    unfold OpenLaw.pre at hc
    have h4 : (WTm.not (.lt (.lit (.int (n : Int))) (.len (.arg 0)))).holds [] { args := [.list (ns.map .int)] } = true := by
      have h4 := (holds_andW hc).1
      rw [hn] at h4
      exact h4
    have h5 := condW_of h4 (w_not (w_lt w_lit (w_len_list (w_arg rfl))))
    rw [List.length_map] at h5
    refine Nat.le_of_not_lt fun q => ?_
    have q' : (n : Int) < ((ns.length : Nat) : Int) := by omega
    first
      | (rw [decide_eq_true q'] at h5; exact absurd h5 (by decide))
      | (simp at h5; omega)
  cases hwl with
  | cons w1 w2 =>
    cases w2
    cases w1 with
    | list ho hall => exact ⟨_, _, ns, rfl, rfl, ho, ints_of_wellAll ns _ hall, hlen⟩

theorem post_true (l : OpenLaw) (args : List WData) : l.row.toRowW.claim.post args (.bool true) args = true :=
  postW_of (r := l.row.toRowW) (X := (true == true))
    (show WShape.has [] (.bool true) .bool = true by first | rfl | decide | simp [WShape.has, WShape.arms, WShape.armsAll])
    (show (WTm.eq .res (.lit (.bool true))).value [] { args := args, res := some (.bool true), after := args } = some (.bool (true == true)) from w_eq_bool (w_res rfl) w_lit) rfl

/-! ### the attachment: holds_open's last premise (the goal 'hc' behind k_head) from a wpAny of the law's body -/
/-- the same from a codeAny of the CALL (for a layer whose function contracts speak of calls) -/
theorem attach_call {l : OpenLaw} {n : Nat} {q : Program} {loose : List Str} {XP : (Str → Option Value) → Heap → Prop} {YP : World → Heap → Prop} {d : DefRec}
    (hn : l.most = some n) (hdf : d.params.defaults = [])
    (call : ∀ (w : World) (s₀ s₁ : Shared) (mg mb : Str → Option Value) (fa : Addr) (o : Obj) (pm cd doc : Value) (a : Addr) (vs : List Value) (ns : List Int),
      Ground q loose [] XP w s₀ mg mb s₁.heap → YP w s₁.heap →
      s₁.heap.get? fa = some o → o.data = .func (docDef d.name d.params d.body d.scope pm cd doc) → s₁.heap.CodeRec cd d.name → mg d.name = some (.ref fa) →
      s₁.heap.get? a = some { cls := .type "list", data := .seq vs.toArray } → IntsAre vs ns → ns.length ≤ n → s₁.gens = #[] →
      codeAny (model l.prog w) callerA (.call (.ref fa) ⟨[.ref a], []⟩) (fun r s' => r = .ok (.ret (.bool true)) ∧ OldK s₁.heap s'.heap ∧ s'.os = s₁.os ∧ AllBare s'.gens) s₁) :
    WalkO q loose XP YP l.row.toRowW d [] (fun f vs => PySem.call f vs) := by
  intro w s₀ s₁ mg mb G Y fa o pm cd doc dV kV ho hd hcd hD hmg hg args vals as hpre hlay hrd hwl hlo
  obtain rfl : dV = .none := Dflts.none hD hdf
  obtain rfl : kV = .none := Dflts.noKw hD
  obtain ⟨a, vs, ns, rfl, rfl, hobj, hints, hlen⟩ := script_of hn hpre hwl
  refine enter_call (codeAny_mono (call w s₀ s₁ mg mb fa o pm cd doc a vs ns G Y ho (fd_plain hd) hcd hmg hobj hints hlen hg) fun r s' hq => ?_)
  obtain ⟨rfl, h2, h3, h4⟩ := hq
  exact ⟨.inl ⟨.bool true, .bool true, [], rfl, fun _ => rfl, .bool true, post_true l _, fun _ => ⟨List.Pairwise.nil, fun _ hm => (nomatch hm)⟩⟩, h2, h3, h4⟩

/-! ### rules over ANY heap (no ledger) from facts about the written part K: the library's own take a ledger (News) for what they write -/
section
variable {prog : Program} {w : World} {A : Around} {E : Value → Shared → Prop} {s : Shared} {K : Frag}

/-! the whole heap as the ledger: makes every rule that writes through a ledger a rule over any heap -/
def ledger (h : Heap) (L d : Addr) : List (Addr × Obj) := (List.range h.objs.size).filterMap fun a => if a = L ∨ a = d then none else (h.get? a).map fun o => (a, o)
end
end Att

namespace L2
open PySem PySem.Spec PyProof.Rows

theorem vals_ints : ∀ {vs : List Value} {ns : List Int}, IntsAre vs ns → Vals (ns.map V.int) vs
  | _, _, .nil => .nil
  | _, _, .cons n t h => .cons ⟨t, rfl⟩ (vals_ints h)

/-- nothing is tracked but the script, known to the object (or it is an object of the module) -/
def Only (H : Hp) : Prop := ∀ b, H b = none ∨ ∃ o xs, H b = some (.frz o (.lst xs))

/-- THE HEAD: the law's promise, at the heap behind the top. F, the promise of the law's def, may use that base is part of the heap (so K.In base, base.Ns mainGlobals mg stand in Mod) -/
theorem law_call {P : Program} {w : World} {K : PySem.W.Frag} {mg mb : Str → Option Value} {CX : CXT} {k : Nat} {fa a : Addr} {fd : FuncData} {x : Str} {sp : Sp} {s₁ : Shared} {vs : List Value} {ns : List Int}
    (KX : K.In s₁.heap) (hns : s₁.heap.Ns mainGlobals mg) (hb : s₁.heap.Ns builtinsNs mb) (hbb : ∀ x : Str, x ≠ "__name__" → mb x = bootBuiltins x) (hlim : s₁.heap.NoLimit) (hg : s₁.gens = #[])
    (ha : s₁.heap.get? a = some { cls := .type "list", data := .seq vs.toArray }) (hi : IntsAre vs ns) (hl : ns.length ≤ sizeLine) (hr : Room k callerA)
    (F : ∀ base : Heap, K.In base → base.Ns mainGlobals mg → FnOk P w K mg base CX k fa fd [x] sp) (hbind : ∀ (s : Shared) (u : Value), BindsTo s fd ⟨[u], []⟩ [(x, u)])
    (hsp : ∀ H : Hp, Only H → SqL K H a (ns.map V.int) → sp [.ref a] H (fun v _ => v = .bl true) fun _ _ _ => False)
    (hCX : ∀ H e s', CX [] H s₁ (fun _ _ _ => False) e s' → False) :
    codeAny (model P w) callerA (.call (.ref fa) ⟨[.ref a], []⟩) (fun r s' => r = .ok (.ret (.bool true)) ∧ OldK s₁.heap s'.heap ∧ s'.os = s₁.os ∧ AllBare s'.gens) s₁ := by
  have rv := vals_ints hi
  have lenV := hi.length
  -- from an abstract heap in which nothing but the script may be tracked
  have core : ∀ H : Hp, Only H → SqL K H a (ns.map V.int) → HOk P w H s₁.heap → (∀ b, H b ≠ none → b = a) → (H a ≠ none → K.lookup a = none) →
      codeAny (model P w) callerA (.call (.ref fa) ⟨[.ref a], []⟩) (fun r s' => r = .ok (.ret (.bool true)) ∧ OldK s₁.heap s'.heap ∧ s'.os = s₁.os ∧ AllBare s'.gens) s₁ := by
    intro H hO hS hok hA hK
    have base_of : ∀ {b : Addr} {o : Obj}, s₁.heap.get? b = some o → H b = none → (hidT s₁.heap H).get? b = some o := fun e n => hidT_get e n
    have noA : ∀ {b : Addr} {o : Obj} {es : Array DictEntry} {ep : Nat}, s₁.heap.get? b = some o → o.data = .dict es ep → H b = none := fun {b o es ep} e d => by
      cases q : H b with
      | none => rfl
      | some u =>
        have e' : b = a := hA b (by rw [q]; simp)
        subst e'
        rw [ha] at e; cases e
        have d' : Data.seq vs.toArray _ = Data.dict es ep := d
        cases d'
    have nsK : ∀ {b : Addr} {m : Str → Option Value}, s₁.heap.Ns b m → (hidT s₁.heap H).Ns b m := fun {b m} ⟨o, es, ep, e, d, r⟩ => ⟨o, es, ep, base_of e (noA e d), d, r⟩
    have hKb : K.In (hidT s₁.heap H) := fun b o e => base_of (KX b o e) (by
      cases q : H b with
      | none => rfl
      | some u =>
        have e' : b = a := hA b (by rw [q]; simp)
        subst e'
        rw [hK (by rw [q]; simp)] at e; cases e)
    have hM : Mod K mg (hidT s₁.heap H) := ⟨hKb, nsK hns, ⟨mb, nsK hb, hbb⟩, let ⟨mc, h1, h2⟩ := hlim; ⟨mc, nsK h1, h2⟩⟩
    have e0 : Env0 P w K mg (hidT s₁.heap H) callerA [] s₁ H := ⟨rfl, hM, fun b o e => of_hidT e, Nat.le_of_eq (hidT_size _ _), trivial, fun b hb => absurd (show b ∈ ([] : List Addr) from hb) (by simp), hok, .of_eq hg⟩
    refine codeAny_mono ((F _ hKb (nsK hns)).run callerA [] s₁ H ⟨[.ref a], []⟩ [.ref a] [.ref a] _ _ hr e0 (hbind s₁ (.ref a)) (.cons rfl .nil) (hsp H hO hS)) fun r s' h => ?_
    cases r with
    | error e => exact (hCX H e s' h).elim
    | ok fl =>
      cases fl with
      | next => exact False.elim h
      | brk => exact False.elim h
      | cont => exact False.elim h
      | ret u =>
        obtain ⟨v, H', os, bare, un, hok', r', q⟩ := h
        have q' : v = .bl true := q
        subst q'
        obtain rfl : u = Value.bool true := r'
        refine ⟨rfl, OldK.of_keep fun b o e => ?_, os, bare⟩
        cases q : H b with
        | none => exact un.keep b o e q (by intro z; exact absurd (show b ∈ ([] : List Addr) from z) (by simp)) (by simp)
        | some u =>
          rcases hO b with z | ⟨ob, xs, z⟩
          · rw [q] at z; cases z
          · have z2 := un.frzs b ob _ z
            obtain ⟨e1, _⟩ := hok b _ z
            obtain ⟨e2, _⟩ := hok' b _ z2
            rw [e] at e1; cases e1
            exact e2
  cases hk : K.lookup a with
  | some o =>
    -- the script is one of the module's own objects
    have e := KX a o hk
    rw [ha] at e
    cases e
    refine core (fun _ => none) (fun _ => .inl rfl) (.inr ⟨_, vs.toArray, _, hk, rfl, rfl, rfl, by rw [List.size_toArray, lenV]; exact hl, by simpa using rv⟩) (fun b u z => by have z' : (none : Option HO) = some u := z; cases z') (fun b z => absurd rfl z) fun z => absurd rfl z
  | none =>
    refine core (fun b => if b = a then some (.frz { cls := .type "list", data := .seq vs.toArray } (.lst (ns.map V.int))) else none) (fun b => ?_) (.inl (.inr ⟨{ cls := .type "list", data := .seq vs.toArray }, if_pos rfl⟩)) (fun b u z => ?_) (fun b z => ?_) fun _ => hk
    · by_cases hb : b = a
      · exact .inr ⟨_, _, if_pos hb⟩
      · exact .inl (if_neg hb)
    · by_cases hb : b = a
      · have z' := (if_pos hb).symm.trans z
        cases z'
        subst hb
        exact ⟨ha, by rw [List.length_map]; exact hl, vs, _, rv, ha⟩
      · have z' := (if_neg hb).symm.trans z
        cases z'
    · by_cases hb : b = a
      · exact hb
      · exact absurd (if_neg hb) z
end L2

namespace L2
open PySem PySem.Spec PyProof.Rows

abbrev KOf {K : PySem.W.Frag} {h : Heap} (_ : K.In h) : PySem.W.Frag := K

/-- the goal that k_head leaves (case hc), from the law's promise. F gives the function object fd (K's own) once, then the promise over every base -/
theorem walk_of {l : PySem.W.OpenLaw} {n k : Nat} {q : Program} {loose : List Str} {XP : (Str → Option Value) → Heap → Prop} {YP : World → Heap → Prop} {d : DefRec} {K : Params → PySem.W.Frag} {CX : World → CXT} {sp : World → Sp} {x : Str}
    (hn : l.most = some n) (hn2 : n ≤ sizeLine) (hdf : d.params.defaults = []) (hr : Room k callerA)
    (hY : ∀ (w : World) (h : Heap), YP w h → (K w.params).In h)
    (F : ∀ (w : World) (mg : Str → Option Value) (fa : Addr) (h : Heap), (K w.params).In h → h.Ns mainGlobals mg → mg d.name = some (.ref fa) →
      ∃ fd : FuncData, (∀ (s : Shared) (u : Value), BindsTo s fd ⟨[u], []⟩ [(x, u)]) ∧
        ∀ base : Heap, (K w.params).In base → base.Ns mainGlobals mg → FnOk l.prog w (K w.params) mg base (CX w) k fa fd [x] (sp w))
    (hsp : ∀ (w : World) (H : Hp) (a : Addr) (ns : List Int), ns.length ≤ n → Only H → SqL (K w.params) H a (ns.map V.int) → sp w [.ref a] H (fun v _ => v = .bl true) fun _ _ _ => False)
    (hCX : ∀ (w : World) (H : Hp) (s : Shared) (e : Value) (s' : Shared), CX w [] H s (fun _ _ _ => False) e s' → False) :
    PySem.W.WalkO q loose XP YP l.row.toRowW d [] (fun f vs => PySem.call f vs) := by
  refine Att.attach_call hn hdf fun w s₀ s₁ mg mb fa o pm cd doc a vs ns G Y ho hd hcd hmg hobj hints hlen hg => ?_
  have KX := hY w _ Y
  obtain ⟨fd, hb, hF⟩ := F w mg fa _ KX G.T.g hmg
  exact law_call KX G.T.g G.T.b G.T.builtins G.T.nolimit hg hobj hints (Nat.le_trans hlen hn2) hr hF hb (fun H hO hS => hsp w H a ns hlen hO hS) fun H e s' => hCX w H s₁ e s'
end L2

/- THE LAST THEOREM (shape; LID, My.* are yours):
   My.Adr: a structure of the addresses that your layer names (classes, functions); My.Txt K t: a structure (Prop) of the equations over K;
   My.txt_mk : {K} {implicit addresses ..} (e1 : nsIn K mainGlobals "law" = some (some (.ref f))) (e2 : K.lookup f = some ⟨oc, od, .func (fnOf "law" "law" params body scope dV kV doc pm an cdv ct), sl⟩) (e3 : codeIn K cdv "law" = true) .. : ∃ t, My.Txt K t

set_option maxRecDepth 100000 in
set_option maxHeartbeats 0 in
theorem PySem.Challenge.cw_LID_holds : PySem.Challenge.rw_LID.Holds := by
  w_on; o_law; k_head; (case hw => w_witness2)
  k_fill
  refine L2.walk_of (l := PySem.Challenge.rw_LID) (n := 63) (k := 40) (x := "script") (CX := fun w => ..) (sp := fun _ => My.sp_law) rfl (by decide) rfl ⟨rfl, by decide, by decide⟩ (fun w h Y => PySem.W.kIn_of Y) ?F ?S ?C
  case F =>
    intro w mg fa h KX G hmg
    have T : ∃ t, My.Txt (L2.KOf KX) t := by
      dsimp only [L2.KOf]                          -- K must stand as «<heap const> w.params» for k_is
      refine' My.txt_mk ?e1 ?e2 ?e3 ..
      (case e1 => PySem.W.k_is)                    -- in the order: a name -> its address -> its object -> its parts
      (case e2 => PySem.W.k_is)
      ..
    obtain ⟨t, T⟩ := T
    have e0 := hmg.symm.trans (PySem.W.mg_of KX G T.law)
    cases e0                                       -- fa is the law's own address
    exact ⟨_, fun s u => .of_eq rfl, fun base kb nb => My.law_fn T kb nb⟩     -- if «.of_eq rfl» comes too early: refine' ⟨_, ?b, fun base kb nb => My.law_fn T kb nb⟩; exact fun s u => .of_eq rfl
  case S => exact fun w H a ns hl hO hS => ..
  case C => exact ..
(the tactic k_is has no namespace: write k_is) -/

/-! SHORT WORDS over the layer: a def of the text, its body, what a loop and a test want. -/
namespace L2
open PySem PySem.Spec PyProof.Rows

/-! ### the text by places -/
/-- the j-th statement of a class's body -/
def inClass (s : Stmt) (j : Nat) : Stmt := match s with
  | .ClassDef _ _ _ body _ _ _ _ _ _ _ => body.getD j (.Pass ⟨0, 0, 0, 0⟩)
  | _ => .Pass ⟨0, 0, 0, 0⟩
def defArgs (s : Stmt) : Arguments := match s with
  | .FunctionDef _ a _ _ _ _ _ _ _ _ => a
  | _ => { posonlyargs := [], args := [], vararg := none, kwonlyargs := [], kw_defaults := [], kwarg := none, defaults := [] }
def defBody (s : Stmt) : List Stmt := match s with
  | .FunctionDef _ _ b _ _ _ _ _ _ _ => b
  | _ => []
def defScope (s : Stmt) : Scope := match s with
  | .FunctionDef _ _ _ _ _ _ sc _ _ _ => sc
  | _ => { kind := .function, names := [], isGenerator := false, isCoroutine := false }

/-! ### no exception leaves a def -/
abbrev CX0 : CXT := fun _ _ _ _ _ _ => False
abbrev E0 : XK := fun _ _ _ => False
theorem pass0 {X : Cx} : Passes CX0 X E0 := fun _ _ _ _ _ _ _ h => h.elim

/-! ### a def (or method) of the text as it stands behind the top -/
structure Fun (K : PySem.W.Frag) (x qual : Str) (st : Stmt) (f : Addr) (fd : FuncData) : Prop where
  ex : ∃ (oc : Value) (od : Option Addr) (kV doc pm : Value) (an : Option Addr) (cdv ct : Value) (osl : Array (Option Value)),
    fd = PySem.W.fnOf x qual (defArgs st) (defBody st) (defScope st) .none kV doc pm an cdv ct ∧ K.lookup f = some ⟨oc, od, .func fd, osl⟩ ∧ PySem.W.codeIn K cdv qual = true
  kp : PySem.W.keepIn K (.ref f) = true
section
variable {P : Program} {w : World} {K : PySem.W.Frag} {mg : Str → Option Value} {base : Heap}
/-- THE RULE for a def: its body as a term of rules, and the reading of that term -/
theorem Fun.ok {x qual : Str} {st : Stmt} {f : Addr} {fd : FuncData} {N ps : List Str} {k : Nat} {sp : Sp} (F : Fun K x qual st f fd) (S : FnScope N ps (defScope st)) (len : ∀ vs H Q E, sp vs H Q E → vs.length = ps.length)
    (hbody : ∀ (cdv : Value) (A : Around) (outer : List Env) (s : Shared) (H : Hp) (vs : List V) (Q : VK) (E : XK), Room k (A.deeper (envOfC qual (defScope st) s.heap.objs.size f cdv)) → sp vs H Q E →
      ∃ t, PSs (cxOf CX0 P w K mg base N qual (defScope st) f cdv A outer s H E).nox (defBody st) t ∧ t { nx := fun _ H' => Q .non H', rt := Q } (start N vs) H) : FnOk P w K mg base CX0 (k + 1) f fd ps sp := by
  obtain ⟨oc, od, kV, doc, pm, an, cdv, ct, osl, rfl, lk, hcd⟩ := F.ex
  refine fn_of lk hcd S len fun A outer s H vs Q E hr hsp => ?_
  obtain ⟨t, h, q⟩ := hbody cdv A outer s H vs Q E hr hsp
  exact ⟨t, h.nox, q⟩
/-- how its arguments bind (no defaults): h is «fun _ _ _ _ _ _ us hl => match us, hl with | [_, _], _ => rfl», one _ a parameter -/
theorem Fun.binds {x qual : Str} {st : Stmt} {f : Addr} {fd : FuncData} {ps : List Str} (F : Fun K x qual st f fd)
    (h : ∀ (kV doc pm : Value) (an : Option Addr) (cdv ct : Value) (us : List Value), us.length = ps.length → bindArgs (PySem.W.fnOf x qual (defArgs st) (defBody st) (defScope st) .none kV doc pm an cdv ct) ⟨us, []⟩ = pure (ps.zip us)) : Binds K fd ps [] := by
  obtain ⟨oc, od, kV, doc, pm, an, cdv, ct, osl, rfl, lk, hcd⟩ := F.ex
  exact .all (h kV doc pm an cdv ct)
theorem fun_mk {x qual : Str} {st : Stmt} {f : Addr} {oc : Value} {od an : Option Addr} {osl : Array (Option Value)} {kV doc pm cdv ct : Value} (l : K.lookup f = some ⟨oc, od, .func (PySem.W.fnOf x qual (defArgs st) (defBody st) (defScope st) .none kV doc pm an cdv ct), osl⟩)
    (c : PySem.W.codeIn K cdv qual = true) (k : PySem.W.keepIn K (.ref f) = true) : Fun K x qual st f (PySem.W.fnOf x qual (defArgs st) (defBody st) (defScope st) .none kV doc pm an cdv ct) := ⟨⟨oc, od, kV, doc, pm, an, cdv, ct, osl, rfl, l, c⟩, k⟩
end
theorem small1000 {n : Nat} (h : n ≤ 1000) : n < sizeLine := Nat.lt_of_le_of_lt h (by decide)

/-! ### expressions in short: the name that stands in the i-th slot -/
section
variable {X : Cx}
theorem pv (i : Nat) {x : Str} {pos : Pos} (hN : X.N[i]? = some x := by rfl) (hv : Vis X.env.scope x := by first | exact Or.inl rfl | exact Or.inr (Or.inl rfl) | exact Or.inr (Or.inr rfl)) (hd : (x == ("__debug__" : Str)) = false := by decide)
    (hcd : (x == ("__classdict__" : Str)) = false := by decide) : PE X (.Name x pos) (tVar i) := pe_var hN hv hd hcd
end

/-! ### tests -/
theorem ite2 {c A B : Prop} [Decidable c] (h1 : c → A) (h2 : ¬ c → B) : if c then A else B := by
  by_cases h : c
  · rw [if_pos h]
    exact h1 h
  · rw [if_neg h]
    exact h2 h
/-! ### heaps -/
/-- all that was tracked is as it was -/
def Same (H H' : Hp) : Prop := ∀ b o, H b = some o → H' b = some o
theorem Same.refl (H : Hp) : Same H H := fun _ _ h => h
theorem Same.trans {H H1 H2 : Hp} (a : Same H H1) (b : Same H1 H2) : Same H H2 := fun c o h => b c o (a c o h)
theorem Same.free {H H' : Hp} (e : Same H H') {l : Addr} (h : H' l = Option.none) : H l = Option.none := by
  cases q : H l with
  | none => rfl
  | some o =>
    rw [e l o q] at h
    cases h
theorem Same.seq {K : PySem.W.Frag} {H H' : Hp} {a : Addr} {xs : List V} (e : Same H H') (h : SqL K H a xs) : SqL K H' a xs := by
  rcases h with (h | ⟨o, h⟩) | h
  · exact .inl (.inl (e _ _ h))
  · exact .inl (.inr ⟨o, e _ _ h⟩)
  · exact .inr h

end L2

set_option Elab.async false
set_option linter.all false
set_option maxRecDepth 100000
set_option maxHeartbeats 4000000
set_option Elab.async false
set_option linter.all false
set_option maxRecDepth 100000
set_option maxHeartbeats 4000000
namespace L2
open PySem PySem.Spec PyProof.Rows

/-! ### lists of pairs as tables -/
section
variable {κ : Type} [DecidableEq κ]
def valV (kvs : List (κ × V)) (k : κ) : Option V := (kvs.find? fun kv => decide (kv.1 = k)).map (·.2)
/-- in its place, or at the end -/
def putK (kvs : List (κ × V)) (k : κ) (v : V) : List (κ × V) :=
  if (kvs.any fun kv => decide (kv.1 = k)) = true then kvs.map (fun kv => if kv.1 = k then (kv.1, v) else kv) else kvs ++ [(k, v)]
def dropK (kvs : List (κ × V)) (k : κ) : List (κ × V) := kvs.filter fun kv => decide (kv.1 ≠ k)

theorem valV_pos {p : κ × V} {r : List (κ × V)} {k : κ} (e : p.1 = k) : valV (p :: r) k = some p.2 := by simp [valV, List.find?_cons, e]
theorem valV_neg {p : κ × V} {r : List (κ × V)} {k : κ} (e : ¬ p.1 = k) : valV (p :: r) k = valV r k := by simp [valV, List.find?_cons, e]
theorem valV_any (k : κ) : ∀ kvs : List (κ × V), (kvs.any fun kv => decide (kv.1 = k)) = (valV kvs k).isSome
  | [] => rfl
  | p :: r => by
    rw [List.any_cons]
    by_cases e : p.1 = k
    · simp only [valV_pos e, decide_eq_true e, Bool.true_or, Option.isSome_some]
    · rw [valV_neg e, decide_eq_false e, Bool.false_or]; exact valV_any k r
theorem RelO.isSome_eq {o : Option V} {u : Option Value} (r : RelO o u) : o.isSome = u.isSome := by
  cases o with
  | none => cases u with
    | none => rfl
    | some _ => exact (show False from r).elim
  | some _ => cases u with
    | none => exact (show False from r).elim
    | some _ => rfl
theorem RelO.getD {o : Option V} {u : Option Value} {d : V} {d' : Value} (r : RelO o u) (rd : RelV d d') : RelV (o.getD d) (u.getD d') := by
  cases o with
  | none => cases u with
    | none => exact rd
    | some _ => exact (show False from r).elim
  | some _ => cases u with
    | none => exact (show False from r).elim
    | some _ => exact r

/-- raw tables of the same keys -/
theorem KV.val {kvs : List (κ × V)} {vs : List (κ × Value)} (r : KV kvs vs) (k : κ) : RelO (valV kvs k) (valueAt vs k) := by
  unfold KV at r
  induction r with
  | nil => exact True.intro
  | @cons p q ps qs h t ih =>
    obtain ⟨h1, h2⟩ := h
    by_cases e : p.1 = k
    · have e' : q.1 = k := h1.symm.trans e
      have b : valueAt (q :: qs) k = some q.2 := by simp [valueAt, List.find?_cons, e']
      rw [valV_pos e, b]; exact h2
    · have e' : ¬ q.1 = k := fun z => e (h1.trans z)
      have b : valueAt (q :: qs) k = valueAt qs k := by simp [valueAt, List.find?_cons, e']
      rw [valV_neg e, b]; exact ih
theorem KV.any {kvs : List (κ × V)} {vs : List (κ × Value)} (r : KV kvs vs) (k : κ) : (kvs.any fun kv => decide (kv.1 = k)) = vs.any fun kv => decide (kv.1 = k) := by
  unfold KV at r
  induction r with
  | nil => rfl
  | cons h t ih => rw [List.any_cons, List.any_cons, ih, h.1]
theorem KV.repl {kvs : List (κ × V)} {vs : List (κ × Value)} (r : KV kvs vs) (k : κ) {y : V} {u : Value} (ry : RelV y u) :
    KV (kvs.map fun kv => if kv.1 = k then (kv.1, y) else kv) (vs.map fun kv => if kv.1 = k then (kv.1, u) else kv) := by
  unfold KV at r ⊢
  induction r with
  | nil => exact .nil
  | @cons p q ps qs h t ih =>
    rw [List.map_cons, List.map_cons]
    refine .cons ?_ ih
    obtain ⟨h1, h2⟩ := h
    by_cases e : p.1 = k
    · rw [if_pos e, if_pos (h1.symm.trans e)]; exact ⟨h1, ry⟩
    · rw [if_neg e, if_neg (fun z => e (h1.trans z))]; exact ⟨h1, h2⟩
theorem KV.put {kvs : List (κ × V)} {vs : List (κ × Value)} (r : KV kvs vs) (k : κ) {y : V} {u : Value} (ry : RelV y u) : KV (putK kvs k y) (stored vs k u) := by
  unfold putK stored
  rw [r.any k]
  by_cases e : (vs.any fun kv => decide (kv.1 = k)) = true
  · rw [if_pos e, if_pos e]; exact r.repl k ry
  · rw [if_neg e, if_neg e]; exact Paired.snoc r ⟨rfl, ry⟩
theorem KV.drop {kvs : List (κ × V)} {vs : List (κ × Value)} (r : KV kvs vs) (k : κ) : KV (dropK kvs k) (without vs k) := by
  unfold KV at r ⊢
  unfold dropK without
  induction r with
  | nil => exact .nil
  | @cons p q ps qs h t ih =>
    obtain ⟨h1, h2⟩ := h
    rw [List.filter_cons, List.filter_cons]
    by_cases e : p.1 = k
    · have a : ¬ decide (p.1 ≠ k) = true := by simp [e]
      have b : ¬ decide (q.1 ≠ k) = true := by simp [h1.symm.trans e]
      rw [if_neg a, if_neg b]; exact ih
    · have e' : ¬ q.1 = k := fun z => e (h1.trans z)
      have a : decide (p.1 ≠ k) = true := by simp [e]
      have b : decide (q.1 ≠ k) = true := by simp [e']
      rw [if_pos a, if_pos b]; exact .cons ⟨h1, h2⟩ ih
theorem KV.keys {kvs : List (κ × V)} {vs : List (κ × Value)} (r : KV kvs vs) : kvs.map (·.1) = vs.map (·.1) := by
  unfold KV at r
  induction r with
  | nil => rfl
  | cons h t ih => rw [List.map_cons, List.map_cons, ih, h.1]
theorem KV.length {kvs : List (κ × V)} {vs : List (κ × Value)} (r : KV kvs vs) : kvs.length = vs.length := Paired.length r
end


/-! ### a tracked dict, its keys ints and texts or tuples of these -/
/-- raw entries of a dict with tuple keys -/
abbrev KT (H : Hp) : List (List Key × V) → List (List Key × Addr × Value) → Prop := Paired fun p q => p.1 = q.1 ∧ H q.2.1 = some (.tup (p.1.map kV)) ∧ RelV p.2 q.2.2
theorem KT.val {H : Hp} {kvs : List (List Key × V)} {xs : List (List Key × Addr × Value)} (r : KT H kvs xs) (k : List Key) : RelO (valV kvs k) ((atKey xs k).map (·.2)) := by
  induction r with
  | nil => exact True.intro
  | @cons p q ps qs h t ih =>
    obtain ⟨h1, _, h2⟩ := h
    by_cases e : p.1 = k
    · have e' : q.1 = k := h1.symm.trans e
      have b : atKey (q :: qs) k = some q.2 := by simp [atKey, List.find?_cons, e']
      rw [valV_pos e, b]; exact h2
    · have e' : ¬ q.1 = k := fun z => e (h1.trans z)
      have b : atKey (q :: qs) k = atKey qs k := by simp [atKey, List.find?_cons, e']
      rw [valV_neg e, b]; exact ih
theorem KT.repl {H : Hp} {kvs : List (List Key × V)} {xs : List (List Key × Addr × Value)} (r : KT H kvs xs) (k : List Key) {y : V} {u : Value} (ry : RelV y u) :
    KT H (kvs.map fun kv => if kv.1 = k then (kv.1, y) else kv) (xs.map (putAt k u)) := by
  induction r with
  | nil => exact .nil
  | @cons p q ps qs h t ih =>
    rw [List.map_cons, List.map_cons]
    refine .cons ?_ ih
    obtain ⟨h1, h2, h3⟩ := h
    unfold putAt
    by_cases e : p.1 = k
    · rw [if_pos e, if_pos (h1.symm.trans e)]; exact ⟨h1, h2, ry⟩
    · rw [if_neg e, if_neg (fun z => e (h1.trans z))]; exact ⟨h1, h2, h3⟩
theorem KT.put {H : Hp} {kvs : List (List Key × V)} {xs : List (List Key × Addr × Value)} (r : KT H kvs xs) (k : List Key) {b : Addr} {y : V} {u : Value} (hb : H b = some (.tup (k.map kV))) (ry : RelV y u) :
    KT H (putK kvs k y) (storedH xs k b u) := by
  have e : (kvs.any fun kv => decide (kv.1 = k)) = (atKey xs k).isSome := by
    rw [valV_any, (r.val k).isSome_eq, Option.isSome_map]
  unfold putK storedH
  rw [e]
  by_cases q : (atKey xs k).isSome = true
  · rw [if_pos q, if_pos q]; exact r.repl k ry
  · rw [if_neg q, if_neg q]; exact Paired.snoc r ⟨rfl, hb, ry⟩
theorem KT.keeps {H H' : Hp} {kvs : List (List Key × V)} {xs : List (List Key × Addr × Value)} (r : KT H kvs xs) (ht : ∀ b ys, H b = some (.tup ys) → H' b = some (.tup ys)) : KT H' kvs xs :=
  Paired.mapP r fun _ _ z => ⟨z.1, ht _ _ z.2.1, z.2.2⟩

section
variable {P : Program} {w : World} {H : Hp} {h : Heap} {a : Addr}
end

/-- what the dict at a holds at the key y -/
def DGet (H : Hp) (a : Addr) (y : V) (r : Option V) : Prop :=
  (∃ kvs k, Rd H a (.dK kvs) ∧ y = kV k ∧ r = valV kvs k) ∨ ∃ kvs k b, Rd H a (.dT kvs) ∧ y = .ref b ∧ H b = some (.tup (k.map kV)) ∧ r = valV kvs k
/-- the heap behind a[y] = v -/
def DPut (H : Hp) (a : Addr) (y v : V) (H' : Hp) : Prop :=
  (∃ kvs k, H a = some (.dK kvs) ∧ y = kV k ∧ kvs.length < sizeLine ∧ H' = upd H a (.dK (putK kvs k v))) ∨
  ∃ kvs k b, H a = some (.dT kvs) ∧ y = .ref b ∧ H b = some (.tup (k.map kV)) ∧ kvs.length < sizeLine ∧ H' = upd H a (.dT (putK kvs k v))
theorem DGet.k {H : Hp} {a : Addr} {kvs : List (Key × V)} {k : Key} (e : H a = some (.dK kvs)) : DGet H a (kV k) (valV kvs k) := .inl ⟨kvs, k, .inl e, rfl, rfl⟩
theorem DGet.t {H : Hp} {a b : Addr} {kvs : List (List Key × V)} {k : List Key} (e : H a = some (.dT kvs)) (eb : H b = some (.tup (k.map kV))) : DGet H a (.ref b) (valV kvs k) := .inr ⟨kvs, k, b, .inl e, rfl, eb, rfl⟩
theorem DPut.k {H : Hp} {a : Addr} {kvs : List (Key × V)} {k : Key} {v : V} (e : H a = some (.dK kvs)) (hl : kvs.length < sizeLine) : DPut H a (kV k) v (upd H a (.dK (putK kvs k v))) := .inl ⟨kvs, k, e, rfl, hl, rfl⟩
theorem DPut.t {H : Hp} {a b : Addr} {kvs : List (List Key × V)} {k : List Key} {v : V} (e : H a = some (.dT kvs)) (eb : H b = some (.tup (k.map kV))) (hl : kvs.length < sizeLine) :
    DPut H a (.ref b) v (upd H a (.dT (putK kvs k v))) := .inr ⟨kvs, k, b, e, rfl, eb, hl, rfl⟩


section
variable {X : Cx} {pins : List (Addr × Obj)} {σ : St} {H : Hp} {s : Shared} {a : Addr} {y v : V} {u r : Value} {o : Option V} {A : Around} {E : Value → Shared → Prop}

end

section
variable {X : Cx} {pins : List (Addr × Obj)} {σ : St} {H : Hp} {s : Shared} {a : Addr} {kvs : List (Key × V)} {k : Key} {u : Value} {A : Around} {E : Value → Shared → Prop}
end


/-! ### readings and rules -/
section
variable {X : Cx} {o i e value : Expr} {pos pos' tpos : Pos} {td ty tv : TE}
end


/-! ### displays -/
/-- {}, to be a dict of the kind that is wanted -/
def tDNewK : TE := fun _ H Q => ∀ p, H p = none → Q (.ref p) (upd H p (.dK []))
section
variable {X : Cx} {pos : Pos}
end

/-- the pairs of a display, from the left -/
def tPairs : List (TE × TE) → St → Hp → (List (V × V) → Hp → Prop) → Prop
  | [], _, H, Q => Q [] H
  | (tk, tv) :: r, σ, H, Q => tk σ H fun x H1 => tv σ H1 fun y H2 => tPairs r σ H2 fun ps H3 => Q ((x, y) :: ps) H3
def mergeK (kvs more : List (Key × V)) : List (Key × V) := more.foldl (fun acc kv => putK acc kv.1 kv.2) kvs
/-- {k: v, ..} with keys ints and texts; the new dict stands empty while the pairs are made -/
def tDisp (trs : List (TE × TE)) : TE := fun σ H Q => ∀ p, H p = none → tPairs trs σ (upd H p (.dK [])) fun ps H2 => H2 p = some (.dK []) ∧ ∃ kvs : List (Key × V), ps = kvs.map (fun kv => (kV kv.1, kv.2)) ∧ kvs.length ≤ 15 ∧ Q (.ref p) (upd H2 p (.dK (mergeK [] kvs)))
/-! ### methods -/
/-- a method call o.m(e) of a built-in, with one argument: what must be seen of the text -/
structure M1 (X : Cx) (o : Expr) (m : Str) (apos : Pos) (e : Expr) (cpos : Pos) : Prop where
  base : attributeBase o m X.env (eval o X.env) = eval o X.env
  few : ((backTo cpos (starEach [e] X.env)).all (fun x => !x.1) && (backToKw cpos (keywordEach [] X.env)).all (fun x => x.1.isSome)
    && decide (([e] : List Expr).length + ([] : List Keyword).length + (if ([] : List Keyword).isEmpty then 0 else 1) < 30)) = true
  line : (apos.endLine == cpos.line) = true
  trees : backTo cpos (starEach [e] X.env) = [(false, eval e X.env)]
structure M2 (X : Cx) (o : Expr) (m : Str) (apos : Pos) (e f : Expr) (cpos : Pos) : Prop where
  base : attributeBase o m X.env (eval o X.env) = eval o X.env
  few : ((backTo cpos (starEach [e, f] X.env)).all (fun x => !x.1) && (backToKw cpos (keywordEach [] X.env)).all (fun x => x.1.isSome)
    && decide (([e, f] : List Expr).length + ([] : List Keyword).length + (if ([] : List Keyword).isEmpty then 0 else 1) < 30)) = true
  line : (apos.endLine == cpos.line) = true
  trees : backTo cpos (starEach [e, f] X.env) = [(false, eval e X.env), (false, eval f X.env)]

section
variable {X : Cx} {pins : List (Addr × Obj)} {σ : St} {H : Hp} {s : Shared} {a : Addr} {y d : V} {u r : Value} {o : Option V} {A : Around} {E : Value → Shared → Prop}
end

section
variable {X : Cx} {o e f : Expr} {apos cpos : Pos} {td ty tx : TE}
end

/-! ### dict(d): a copy -/
section
variable {X : Cx} {pins : List (Addr × Obj)} {σ : St} {H : Hp} {s : Shared} {a : Addr} {kvs : List (Key × V)} {A : Around} {E : Value → Shared → Prop}
end


section
variable {X : Cx} {pins : List (Addr × Obj)} {σ : St} {H : Hp} {s : Shared} {a : Addr} {y : V} {u : Value} {A : Around} {E : Value → Shared → Prop}
end
end L2
namespace L2
open PySem PySem.Spec PyProof.Rows
section
variable {κ : Type} [DecidableEq κ]
end
end L2

set_option Elab.async false
set_option linter.all false
set_option maxRecDepth 100000
set_option maxHeartbeats 4000000
namespace L2
open PySem PySem.Spec PyProof.Rows
section
variable {X : Cx}
/-! ### products and quotients of great numbers -/
def CMulB (i j : Int) : Prop := i.natAbs < 2 ^ 256 ∧ j.natAbs < 2 ^ 256
theorem bits256 {i : Int} (h : i.natAbs < 2 ^ 256) : Builtin.Int.intBits i ≤ 2 ^ 20 := Nat.le_trans (intBits_le h) (by decide)
theorem op_mulB : OpR X (binaryOp .Mult) (rI CMulB fun i j => .int (i * j)) := opI fun _ _ _ _ _ _ _ hc q => mul_int q (IntMulOk.of_bits (bits256 hc.1) (bits256 hc.2))
/-! ### isinstance -/
theorem call_isi : CallR X (.builtin "isinstance") (fun xs H Q => ∃ x n ty b, xs = [x, .ty n] ∧ TyOf X.K H x ty ∧ PySem.W.kitOne X.K ty (.type n) = some b ∧ Q (.bl b) H) := by
  intro pins s σ H xs us Q I r h
  obtain ⟨x, n, ty, b, rfl, hty, hk, q⟩ := h
  obtain ⟨u, w', rfl, rx, rc⟩ := vals2 r
  cases (show w' = Value.type n from rc)
  exact isinst_ok I rx hty hk (fun tk => ⟨.bl b, H, I.tok _, rfl, q⟩)
theorem kitOne_ty (K : PySem.W.Frag) (A B : String) (r : Bool)
    (h : (if (Value.type A == Value.type B) = true then some true else if PySem.W.kitMeta B = true then (fastBuiltinMro A).map (·.contains (.type B)) else none) = some r) : PySem.W.kitOne K (.type A) (.type B) = some r := h
/-! ### == of data, whatever its depth -/
mutual
inductive DatV (K : PySem.W.Frag) (H : Hp) : V → PyData → Prop
  | non : DatV K H .non .none
  | bl (b : Bool) : DatV K H (.bl b) (.bool b)
  | int (i : Int) : DatV K H (.int i) (.int i)
  | str (x : Str) : DatV K H (.str x) (.str x)
  | lst {a : Addr} {xs : List V} {ds : List PyData} (h : SqL K H a xs) (r : DatVs K H xs ds) : DatV K H (.ref a) (.list ds)
  | tup {a : Addr} {xs : List V} {ds : List PyData} (h : SqT K H a xs) (r : DatVs K H xs ds) : DatV K H (.ref a) (.tuple ds)
inductive DatVs (K : PySem.W.Frag) (H : Hp) : List V → List PyData → Prop
  | nil : DatVs K H [] []
  | cons {x : V} {d : PyData} {xs : List V} {ds : List PyData} (h : DatV K H x d) (t : DatVs K H xs ds) : DatVs K H (x :: xs) (d :: ds)
end
mutual
theorem DatV.reads {pins : List (Addr × Obj)} {σ : St} {H : Hp} {s : Shared} (I : Inv X pins σ H s) : ∀ {x : V} {d : PyData} {u : Value}, DatV X.K H x d → RelV x u → ∃ as, Reads s.heap u d as
  | _, _, _, .non, r => by cases (show _ = Value.none from r); exact ⟨_, .none⟩
  | _, _, _, .bl b, r => by cases (show _ = Value.bool b from r); exact ⟨_, .bool b⟩
  | _, _, _, .int i, r => by obtain ⟨t, rfl⟩ := r; exact ⟨_, .int i t⟩
  | _, _, _, .str x, r => by obtain ⟨t, rfl⟩ := r; exact ⟨_, .str x t⟩
  | _, _, _, @DatV.lst _ _ a xs ds h q, r => by
    cases (show _ = Value.ref a from r)
    obtain ⟨its, hv, hp, _⟩ := I.list h
    obtain ⟨o, n, e, c, _, d⟩ := hp
    obtain ⟨as, z⟩ := DatVs.reads I q hv
    exact ⟨_, .list e c d (by simpa using z)⟩
  | _, _, _, @DatV.tup _ _ a xs ds h q, r => by
    cases (show _ = Value.ref a from r)
    obtain ⟨its, hv, hp, _⟩ := I.tuple h
    obtain ⟨o, e, c, n, d⟩ := hp
    obtain ⟨as, z⟩ := DatVs.reads I q hv
    exact ⟨_, .tuple e c d (by simpa using z)⟩
theorem DatVs.reads {pins : List (Addr × Obj)} {σ : St} {H : Hp} {s : Shared} (I : Inv X pins σ H s) : ∀ {xs : List V} {ds : List PyData} {us : List Value}, DatVs X.K H xs ds → Vals xs us → ∃ as, ReadsAll s.heap us ds as
  | _, _, _, .nil, .nil => ⟨_, .nil⟩
  | _, _, _, .cons h t, .cons r q => by
    obtain ⟨as, z⟩ := DatV.reads I h r
    obtain ⟨bs, y⟩ := DatVs.reads I t q
    exact ⟨_, .cons z y⟩
end
def rEqD (K : PySem.W.Frag) : R2 := fun x y H Q => ∃ d e, DatV K H x d ∧ DatV K H y e ∧ SeqAt.shaped d = true ∧ SeqAt.shaped e = true ∧ Q (.bl (PyData.eqv d e)) H
def rNeD (K : PySem.W.Frag) : R2 := fun x y H Q => ∃ d e, DatV K H x d ∧ DatV K H y e ∧ SeqAt.shaped d = true ∧ SeqAt.shaped e = true ∧ Q (.bl (!PyData.eqv d e)) H
theorem op_eqD (hu : X.A.units + 64 < cLine) : OpR X (compareOp .Eq) (rEqD X.K) := by
  intro pins s σ H x y v u Q I rx ry h
  obtain ⟨d, e, hd, he, sd, se, q⟩ := h
  obtain ⟨as, z⟩ := hd.reads I rx
  obtain ⟨bs, z'⟩ := he.reads I ry
  exact SeqAt.compareEq_shaped z z' sd se hu ⟨.bl _, H, I, rfl, q⟩
theorem op_neD (hu : X.A.units + 64 < cLine) : OpR X (compareOp .NotEq) (rNeD X.K) := by
  intro pins s σ H x y v u Q I rx ry h
  obtain ⟨d, e, hd, he, sd, se, q⟩ := h
  obtain ⟨as, z⟩ := hd.reads I rx
  obtain ⟨bs, z'⟩ := he.reads I ry
  exact SeqAt.compareNe_shaped z z' sd se hu ⟨.bl _, H, I, rfl, q⟩
end
/-! ### heaps that grow -/
theorem same_upd {H : Hp} {p : Addr} {o : HO} (h : H p = none) : Same H (upd H p o) := fun b u e => by
  rw [upd_ne (ne_of_none e h)]; exact e
theorem Same.ty {K : PySem.W.Frag} {H H' : Hp} {x : V} {t : Value} (e : Same H H') (h : TyOf K H x t) : TyOf K H' x t := by
  cases h with
  | non => exact .non
  | bl b => exact .bl b
  | int i => exact .int i
  | str x => exact .str x
  | flt x => exact .flt x
  | lst q => exact .lst (e _ _ q)
  | frz q => exact .frz (e _ _ q)
  | tup q => exact .tup (e _ _ q)
  | dK q => exact .dK (e _ _ q)
  | dT q => exact .dT (e _ _ q)
  | ins q a b c d f => exact .ins (e _ _ q) a b c d f
theorem atI_lt {α : Type} (xs : List α) (i : Int) (h0 : 0 ≤ i) (h1 : i < xs.length) : ∃ v, atI xs i = some v ∧ v ∈ xs := by
  have hl : i.toNat < xs.length := by omega
  refine ⟨xs[i.toNat], ?_, List.getElem_mem hl⟩
  have e : ((i.toNat : Nat) : Int) = i := by omega
  have := atI_nat (xs := xs) (j := i.toNat) (v := xs[i.toNat]) (List.getElem?_eq_getElem hl)
  rw [e] at this
  exact this
theorem atI_ints (ns : List Int) (i : Int) (h0 : 0 ≤ i) (h1 : i < ns.length) : ∃ z, atI (ns.map V.int) i = some (.int z) ∧ z ∈ ns := by
  obtain ⟨v, e, m⟩ := atI_lt (ns.map V.int) i h0 (by simpa using h1)
  obtain ⟨z, hz, rfl⟩ := List.mem_map.mp m
  exact ⟨z, e, hz⟩
end L2

set_option Elab.async false
set_option linter.all false
set_option maxRecDepth 100000
set_option maxHeartbeats 4000000
namespace L2
open PySem PySem.Spec PyProof.Rows
/-! ### comprehensions -/
/-- the cells that a block takes from the frame around -/
def clOf (cells : List (Str × Addr)) : List (Str × NameKind) → List (Str × Addr) → List (Str × Addr)
  | [], acc => acc
  | (n, k) :: r, acc => if (k == .free) = true then clOf cells r ((n, (cells.lookup n).getD 0) :: acc) else clOf cells r acc
theorem closure_run {env : Env} : ∀ (names : List (Str × NameKind)) (acc : List (Str × Addr)), (∀ y ∈ names, y.2 = .free → ∃ c, env.cells.lookup y.1 = some c) →
    (forIn names acc (fun (x : Str × NameKind) (cs : List (Str × Addr)) => match x with
      | (name, kind) => if (kind == .free) = true then (do let a ← cellOf env name; pure (ForInStep.yield ((name, a) :: cs))) else (do pure PUnit.unit; pure (ForInStep.yield cs))) : Sem (List (Str × Addr))) = pure (clOf env.cells names acc)
  | [], acc, _ => rfl
  | (n, k) :: r, acc, h => by
    rw [List.forIn_cons]
    have hr : ∀ y ∈ r, y.2 = .free → ∃ c, env.cells.lookup y.1 = some c := fun y hy => h y (List.mem_cons_of_mem _ hy)
    by_cases hk : (k == .free) = true
    · obtain ⟨c, hc⟩ := h (n, k) List.mem_cons_self (by simpa using hk)
      have hc' : env.cells.lookup n = some c := hc
      simp only [hk, if_true, clOf, hc', Option.getD_some]
      have e : cellOf env n = pure c := by unfold cellOf; rw [hc']
      rw [e]
      exact closure_run r _ hr
    · simp only [hk, if_false, clOf]
      exact closure_run r acc hr
theorem closureFor_eq {scope : Scope} {env : Env} (h : ∀ y ∈ scope.names, y.2 = .free → ∃ c, env.cells.lookup y.1 = some c) : closureFor scope env = pure (clOf env.cells scope.names []) := by
  unfold closureFor
  have := closure_run (env := env) scope.names [] h
  first
    | exact (congrArg (fun m => m >>= fun cs => pure cs) this).trans (pure_bind _ _)
    | (simp only [] at this ⊢; rw [this]; rfl)
theorem clOf_sub {cells : List (Str × Addr)} {x : Str} {c : Addr} : ∀ {names : List (Str × NameKind)} {acc : List (Str × Addr)}, (∀ y ∈ names, y.2 = .free → ∃ c, cells.lookup y.1 = some c) → (clOf cells names acc).lookup x = some c → acc.lookup x = some c ∨ cells.lookup x = some c
  | [], acc, _, h => .inl h
  | (n, k) :: r, acc, hf, h => by
    have hr : ∀ y ∈ r, y.2 = .free → ∃ c, cells.lookup y.1 = some c := fun y hy => hf y (List.mem_cons_of_mem _ hy)
    unfold clOf at h
    by_cases hk : (k == .free) = true
    · rw [if_pos hk] at h
      rcases clOf_sub hr h with q | q
      · rw [List.lookup_cons] at q
        cases hx : x == n with
        | true =>
          rw [hx] at q
          obtain ⟨d, hd⟩ := hf (n, k) List.mem_cons_self (by simpa using hk)
          have e : x = n := by simpa using hx
          subst e
          have hd' : cells.lookup x = some d := hd
          rw [hd'] at q ⊢
          exact .inr (by simpa using q)
        | false => rw [hx] at q; exact .inl q
      · exact .inr q
    · rw [if_neg hk] at h
      exact clOf_sub hr h
theorem clOf_acc {cells : List (Str × Addr)} {x : Str} : ∀ {names : List (Str × NameKind)} {acc : List (Str × Addr)}, (∀ y ∈ names, y.2 = .free → ∃ c, cells.lookup y.1 = some c) → (∃ c, acc.lookup x = some c) → ∃ c, (clOf cells names acc).lookup x = some c
  | [], acc, _, h => h
  | (n, k) :: r, acc, hf, h => by
    have hr : ∀ y ∈ r, y.2 = .free → ∃ c, cells.lookup y.1 = some c := fun y hy => hf y (List.mem_cons_of_mem _ hy)
    unfold clOf
    by_cases hk : (k == .free) = true
    · rw [if_pos hk]
      refine clOf_acc hr ?_
      rw [List.lookup_cons]
      cases hx : x == n with
      | true => exact ⟨_, rfl⟩
      | false => exact h
    · rw [if_neg hk]
      exact clOf_acc hr h
theorem clOf_has {cells : List (Str × Addr)} {x : Str} : ∀ {names : List (Str × NameKind)} {acc : List (Str × Addr)}, (∀ y ∈ names, y.2 = .free → ∃ c, cells.lookup y.1 = some c) → names.lookup x = some .free → ∃ c, (clOf cells names acc).lookup x = some c
  | [], acc, _, h => by simp at h
  | (n, k) :: r, acc, hf, h => by
    have hr : ∀ y ∈ r, y.2 = .free → ∃ c, cells.lookup y.1 = some c := fun y hy => hf y (List.mem_cons_of_mem _ hy)
    rw [List.lookup_cons] at h
    unfold clOf
    cases hx : x == n with
    | true =>
      rw [hx] at h
      have hk : k = .free := by simpa using h
      subst hk
      rw [if_pos (show (NameKind.free == NameKind.free) = true from rfl)]
      refine clOf_acc hr ⟨(cells.lookup n).getD 0, ?_⟩
      rw [List.lookup_cons, hx]
    | false =>
      rw [hx] at h
      by_cases hk : (k == .free) = true
      · rw [if_pos hk]; exact clOf_has hr h
      · rw [if_neg hk]; exact clOf_has hr h
theorem lookup_mem {x : Str} {k : NameKind} : ∀ {names : List (Str × NameKind)}, names.lookup x = some k → (x, k) ∈ names
  | [], h => by simp at h
  | (n, j) :: r, h => by
    rw [List.lookup_cons] at h
    cases hx : x == n with
    | true =>
      rw [hx] at h
      have e : x = n := by simpa using hx
      have e2 : j = k := by simpa using h
      subst e; subst e2
      exact List.mem_cons_self
    | false => rw [hx] at h; exact List.mem_cons_of_mem _ (lookup_mem h)
/-- what a name is within the block: as in the scope, the frame's cells as cells -/
theorem lookup_relabel {env : Env} {x : Str} : ∀ {names : List (Str × NameKind)},
    (names.map fun (n, k) => if (k == NameKind.free && env.scope.kind == .function && env.kindOf n == some .cell) then (n, NameKind.cell) else (n, k)).lookup x
      = (names.lookup x).map fun k => if (k == NameKind.free && env.scope.kind == .function && env.kindOf x == some .cell) then NameKind.cell else k
  | [] => rfl
  | (n, k) :: r => by
    have ih := @lookup_relabel env x r
    show List.lookup x ((if (k == NameKind.free && env.scope.kind == .function && env.kindOf n == some .cell) = true then (n, NameKind.cell) else (n, k)) :: _) = _
    cases hx : x == n with
    | true =>
      have e : x = n := by simpa using hx
      subst e
      by_cases hc : (k == NameKind.free && env.scope.kind == .function && env.kindOf x == some .cell) = true
      · rw [if_pos hc]
        simp only [List.lookup_cons, beq_self_eq_true, Option.map_some]
        rw [if_pos hc]
      · rw [if_neg hc]
        simp only [List.lookup_cons, beq_self_eq_true, Option.map_some]
        rw [if_neg hc]
    | false =>
      by_cases hc : (k == NameKind.free && env.scope.kind == .function && env.kindOf n == some .cell) = true
      · rw [if_pos hc]; simp only [List.lookup_cons, hx]; exact ih
      · rw [if_neg hc]; simp only [List.lookup_cons, hx]; exact ih
/-- the block's context -/
abbrev cCx (X : Cx) (scope : Scope) (N' : List Str) (C : Addr) (s₀ : Shared) (H₀ : Hp) (ex : List Addr) (pn : List (Addr × Obj)) : Cx :=
  { X with N := N', s₀ := s₀, H₀ := H₀, env := compEnvC scope (clOf X.env.cells scope.names []) C X.env, outer := X.stack, stack := X.stack, ex := ex, fn := fun _ => false, pn := pn, xe := fun _ _ => False }
/-- a block's tests -/
def PTs (Y : Cx) (ifs : List Expr) (t : TT) : Prop :=
  ∀ (pins : List (Addr × Obj)) (s : Shared) (σ : St) (H : Hp) (Q : Bool → Hp → Prop), Inv Y pins σ H s → t σ H Q →
    wpAny (model Y.prog Y.w) Y.A (forIn ifs true fun c r => if r = true then do let ok ← isTrue c Y.env (eval c Y.env); pure (ForInStep.yield ok) else pure (ForInStep.yield r)) (TP Y pins σ Q) Y.xe s
def tYes : TT := fun _ H Q => Q true H
theorem pts_nil {Y : Cx} : PTs Y [] tYes := fun _ _ _ H _ I h => wpAny_pure ⟨H, I, h⟩
theorem HOk.but {P : Program} {w : World} {H : Hp} {h h' : Heap} {C : Addr} (ok : HOk P w H h) (hn : H C = none) (hs : Heap.SameBut C h h') : HOk P w H h' := fun b ob e => by
  refine (ok b ob e).stay (fun c w' hc q => (hs.2 c ?_).trans q) (fun _ q => q) fun _ _ q => q
  rintro rfl
  rcases hc with rfl | hc
  · rw [hn] at e; cases e
  · rw [hn] at hc; cases hc
theorem Un.but {fs ex : List Addr} {H H' : Hp} {h h1 h2 : Heap} {C : Addr} (u : Un fs ex H H' h h1) (hs : Heap.SameBut C h1 h2) (hC : ∀ b o, h.get? b = some o → b ≠ C) : Un fs ex H H' h h2 where
  keep := fun b o e n hb hx => (hs.2 b (hC b o e)).trans (u.keep b o e n hb hx)
  slot := fun b o e n hb hx => by
    obtain ⟨sl, q⟩ := u.slot b o e n hb hx
    exact ⟨sl, (hs.2 b (hC b o e)).trans q⟩
  free := u.free
  there := fun b o e hx => by
    obtain ⟨o', q⟩ := u.there b o e hx
    exact ⟨o', (hs.2 b (hC b o e)).trans q⟩
  tups := u.tups
  frzs := u.frzs
  tbls := u.tbls
section
variable {X : Cx}
/-- the reading of [elt for tg in iter if ..]: D the new list; W: the invariant by the turn, a measure, what the list holds -/
def tComp (k : Nat) (wi : TI) (g : TG) (tt : TT) (te : TE) : TE := fun σ H Q => wi σ H fun J H1 => ∀ D, H1 D = none → ∃ W : Nat → Nat → List V → Hp → Prop, (∃ m, W 0 m [] (upd H1 D (.lst []))) ∧ ∀ i m ys H, W i m ys H →
  (J.stop i H ∧ Q (.ref D) H) ∨ (J.go i H ∧ ∃ N : List V → Hp → Prop, (∀ ys' H', N ys' H' → ∃ m', m' < m ∧ W (i + 1) m' ys' H') ∧
    ∀ x H', J.yld i H x H' → g x (List.replicate k none ++ σ) H' fun σ2 H2 => (∃ vs : St, vs.length = k ∧ σ2 = vs ++ σ) ∧ tt σ2 H2 fun b H3 => if b = true then te σ2 H3 fun y H4 => H4 D = some (.lst ys) ∧ ys.length < sizeLine ∧ N (ys ++ [y]) (upd H4 D (.lst (ys ++ [y]))) else N ys H3)
/-- the loop -/
theorem comp_loop {Y : Cx} {tg elt iter : Expr} {ifs : List Expr} {scope : Scope} {pos : Pos} {it D : Addr} {g : TG} {tt : TT} {te : TE} {J : It} {fp : List Addr} {tn : Nat → Heap → Prop} {k : Nat} {σ : St} {Q : VK}
    (hc : Y.calm = true) (hx : Y.xe = fun _ _ => False) (hg : PG Y tg g) (ht : PTs Y ifs tt) (he : PE Y elt te) (T : Turn Y.prog Y.w Y.K tg J fp it tn) (hf : ∀ H : Hp, (∀ b ∈ fp, H b = none) → ∀ b ∈ fp, FpOk Y [] H b)
    (W : Nat → Nat → List V → Hp → Prop)
    (turn : ∀ i m ys H, W i m ys H → (J.stop i H ∧ Q (.ref D) H) ∨ (J.go i H ∧ ∃ N : List V → Hp → Prop, (∀ ys' H', N ys' H' → ∃ m', m' < m ∧ W (i + 1) m' ys' H') ∧
      ∀ x H', J.yld i H x H' → g x (List.replicate k none ++ σ) H' fun σ2 H2 => (∃ vs : St, vs.length = k ∧ σ2 = vs ++ σ) ∧ tt σ2 H2 fun b H3 => if b = true then te σ2 H3 fun y H4 => H4 D = some (.lst ys) ∧ ys.length < sizeLine ∧ N (ys ++ [y]) (upd H4 D (.lst (ys ++ [y]))) else N ys H3))
    (n : Nat) (s : Shared) (h : ∃ i ys H, Inv Y [] (List.replicate k none ++ σ) H s ∧ tn i s.heap ∧ (∀ b ∈ fp, H b = none) ∧ W i n ys H) :
    codeAny (model Y.prog Y.w) Y.A (.compLoop (.ListComp elt [⟨tg, iter, ifs, 0⟩] scope pos) 0 (.ref it) (.ref D) Y.env) (fun r s' => r = .ok .next ∧ ∃ H', Inv Y [] (List.replicate k none ++ σ) H' s' ∧ Q (.ref D) H') s := by
  refine codeAny_loop rfl (fun n s => ∃ i ys H, Inv Y [] (List.replicate k none ++ σ) H s ∧ tn i s.heap ∧ (∀ b ∈ fp, H b = none) ∧ W i n ys H) ?_ n h
  rintro n s3 ⟨i, ys, H3, I3, st3, fr3, w3⟩
  show wpAny _ Y.A ((compTurn (.ListComp elt [⟨tg, iter, ifs, 0⟩] scope pos) 0 (.ref it) (.ref D) Y.env).onRaise (fun x => do noteFrame x Y.env; theTreesLotGoes x)) _ _ s3
  refine PySem.wpAny_noted ?_
  rw [PySem.compTurn_list]
  have no : ∀ {α : Type} {m : Sem α} {P : α → Shared → Prop} {E : Value → Shared → Prop} {s : Shared}, wpAny (model Y.prog Y.w) Y.A m P Y.xe s → wpAny (model Y.prog Y.w) Y.A m P E s := fun {α m P E s} h =>
    wpAny_mono h (fun _ _ q => q) fun _ _ q => by rw [hx] at q; exact q.elim
  refine wpAny_bind (wpAny_standAt (wpAny_bind ?_))
  rcases turn i n ys H3 w3 with ⟨stop, qn⟩ | ⟨go, N, hN, step⟩
  · refine thn (T.done Y rfl rfl rfl hc i [] s3 (List.replicate k none ++ σ) H3 _ I3 (hf H3 fr3) st3 stop) fun r s4 ⟨hr, I4⟩ => ?_
    subst hr
    exact wpAny_pure ⟨rfl, H3, I4, qn⟩
  · refine thn (T.item Y rfl rfl rfl hc i [] s3 (List.replicate k none ++ σ) H3 _ I3 (hf H3 fr3) st3 go) fun r s4 ⟨u, hr, h4⟩ => ?_
    subst hr
    refine wpAny_bind (thn h4 fun _ s5 ⟨x, H5, I5, r5, y5, st5, fr5⟩ => ?_)
    have I5' := I5.pinned (hf H5 fr5) (T.obj _ _ st5)
    refine wpAny_bind (no (thn (hg _ s5 (List.replicate k none ++ σ) H5 x u _ I5' r5 (step x H5 y5)) fun _ s6 ⟨σ6, H6, I6, ⟨vs, hvs, e6⟩, q6⟩ => ?_))
    subst e6
    have forget : ∀ {pins : List (Addr × Obj)} {H : Hp} {s : Shared}, Inv Y pins (vs ++ σ) H s → Inv Y pins (List.replicate k none ++ σ) H s := fun {pins H s} I => I.weak (by simp [hvs]) fun i v e => by
      by_cases hi : i < k
      · rw [List.getElem?_append_left (by simpa using hi)] at e
        simp [List.getElem?_replicate, hi] at e
      · rw [List.getElem?_append_right (by simpa using Nat.le_of_not_lt hi)] at e
        rw [List.getElem?_append_right (by omega)]
        simpa [hvs] using e
    refine wpAny_bind (no (thn (ht _ s6 (vs ++ σ) H6 _ I6 q6) fun b s7 ⟨H7, I7, q7⟩ => ?_))
    have again : ∀ {H8 : Hp} {s8 : Shared} {ys' : List V}, Inv Y ([] ++ pinsAt fp s5.heap) (vs ++ σ) H8 s8 → N ys' H8 → ∃ m, m < n ∧ ∃ i ys H, Inv Y [] (List.replicate k none ++ σ) H s8 ∧ tn i s8.heap ∧ (∀ b ∈ fp, H b = none) ∧ W i m ys H := fun {H8 s8 ys'} I8 n8 => by
      obtain ⟨m', hm, w8⟩ := hN ys' H8 n8
      refine ⟨m', hm, i + 1, ys', H8, forget I8.unpinned, T.keep _ _ _ st5 fun b hb o e => (I8.pin (b, o) (List.mem_append_right _ (List.mem_append_right _ (mem_pinsAt hb e)))).1, fun b hb => ?_, w8⟩
      obtain ⟨o, e, d⟩ := T.obj _ _ st5 b hb
      exact (I8.pin (b, o) (List.mem_append_right _ (List.mem_append_right _ (mem_pinsAt hb e)))).2.1
    cases b with
    | false =>
      rw [if_neg Bool.false_ne_true] at q7
      exact wpAny_pure ⟨rfl, again I7 q7⟩
    | true =>
      rw [if_pos rfl] at q7
      refine wpAny_bind (wpAny_bind (no (thn (he _ s7 (vs ++ σ) H7 _ I7 q7) fun y s8 ⟨y', H8, I8, ry, q8, l8, n8⟩ => ?_)))
      exact wpAny_bind (no (thn (mt_append _ s8 (vs ++ σ) H8 (.ref D) [y'] (.ref D) [y] (fun _ H' => N (ys ++ [y']) H') I8 rfl (.cons ry .nil) ⟨D, ys, y', rfl, rfl, q8, l8, n8⟩) fun _ s9 ⟨_, H9, I9, _, q9⟩ => wpAny_pure (wpAny_pure ⟨rfl, again I9 q9⟩)))
/-- [elt for tg in iter if ..] with names of the frame around it -/
structure CompOk (X : Cx) (scope : Scope) (N' : List Str) (k : Nat) : Prop where
  cell : ∀ y ∈ scope.names, y.2 ≠ .cell
  kind : scope.kind = .function
  names : ∀ y ∈ scope.names, y.2 = .local → scope.names.lookup y.1 = some .local
  free : ∀ y ∈ scope.names, y.2 = .free → X.env.scope.names.lookup y.1 = some .cell
  len : N'.length = k + X.N.length
  sub : ∀ i x, N'[k + i]? = some x → scope.names.lookup x = some .free → X.N[i]? = some x
  loc : ∀ i x, N'[k + i]? = some x → scope.names.lookup x ≠ some .local
theorem CompOk.cells {scope : Scope} {N' : List Str} {k : Nat} {pins : List (Addr × Obj)} {σ : St} {H : Hp} {s : Shared} (c : CompOk X scope N' k) (I : Inv X pins σ H s) : ∀ y ∈ scope.names, y.2 = .free → ∃ a, X.env.cells.lookup y.1 = some a := fun y hy e =>
  I.ok.has y.1 (.inl (c.free y hy e))
/-- the block's state at its start -/
theorem inv_comp {scope : Scope} {N' : List Str} {k : Nat} {pins : List (Addr × Obj)} {σ : St} {H : Hp} {s s₄ : Shared} {fp : List Addr} {m : Str → Option Value} (c : CompOk X scope N' k) (hc : X.calm = true) (I : Inv X pins σ H s)
    (hf : ∀ b ∈ fp, FpOk X pins H b) (hfl : ∀ b ∈ fp, b < s.heap.objs.size) (hb : ∀ b ∈ fp, X.base.get? b = none) (hns : s₄.heap.Ns s.heap.objs.size m) (hk : ∀ b o, s.heap.get? b = some o → s₄.heap.get? b = some o) (ho : s₄.os = s.os) (hg : s₄.gens = s.gens) :
    Inv (cCx X scope N' s.heap.objs.size s H fp (X.pn ++ pins)) [] (List.replicate k none ++ σ) H s₄ := by
  have hcl := c.cells I
  have sub : ∀ x a, (clOf X.env.cells scope.names []).lookup x = some a → X.env.cells.lookup x = some a := fun x a e => by
    rcases clOf_sub hcl e with q | q
    · simp at q
    · exact q
  have kinds : ∀ x, (compEnvC scope (clOf X.env.cells scope.names []) s.heap.objs.size X.env).kindOf x = some .cell ∨ (compEnvC scope (clOf X.env.cells scope.names []) s.heap.objs.size X.env).kindOf x = some .free → scope.names.lookup x = some .free := fun x hx => by
    have e : (compEnvC scope (clOf X.env.cells scope.names []) s.heap.objs.size X.env).kindOf x = (scope.names.lookup x).map fun k => if (k == NameKind.free && X.env.scope.kind == .function && X.env.kindOf x == some .cell) then NameKind.cell else k := lookup_relabel
    rw [e] at hx
    cases q : scope.names.lookup x with
    | none => rw [q] at hx; simp at hx
    | some j =>
      rw [q] at hx
      have hj : j ≠ .cell := c.cell (x, j) (lookup_mem q)
      cases j <;> simp_all
  have fresh : ∀ b, s.heap.objs.size ≤ b → s.heap.get? b = none := fun b hb => Heap.get?_none_of_le hb
  have ne : ∀ b o, s.heap.get? b = some o → b ≠ s.heap.objs.size := fun b o e => Nat.ne_of_lt (Heap.lt_size e)
  have cl_lt : ∀ x a, X.env.cells.lookup x = some a → a < s.heap.objs.size := fun x a e => by
    obtain ⟨v, o, h1, _⟩ := I.cell x a e
    exact Heap.lt_size h1
  refine ⟨⟨I.ok.mod, c.kind, I.ok.glob, I.ok.blt, Nat.le_refl _, fun x y a e1 e2 => I.ok.inj x y a (sub x a e1) (sub y a e2), fun x hx => clOf_has hcl (kinds x hx), (fun _ _ z => nomatch z), I.ok.hd, I.ok.frames, .inl rfl, fun b hb' => ⟨Nat.ne_of_lt (hfl b hb'), fun x a e => (hf b hb').2.2.2.2.1 x a (sub x a e)⟩,
      I.bs, Nat.le_trans I.ok.bsz I.sz, (fun b o e hb' => by rw [hb b hb'] at e; cases e), fun b hb' hz => ?_, I.stack, I.stkFree⟩, ho, by rw [hg]; exact I.bare, Un.kept hk, ⟨m, hns, fun i x v e1 e2 e3 => ?_⟩, fun x a e => ?_, I.hok.fresh (Nat.le_refl _), fun x a e => I.freeC x a (sub x a e), fun p hp => ?_, I.hok.kept hk, ?_⟩
  · rcases List.mem_cons.mp (I.stkSub b hz) with z | z
    · exact (hf b hb').2.1 z
    · exact (hf b hb').2.2.1 z
  · have hi : k ≤ i := by
      refine Nat.le_of_not_lt fun hi => ?_
      rw [List.getElem?_append_left (by simpa using hi)] at e2
      simp [List.getElem?_replicate, hi] at e2
    obtain ⟨j, rfl⟩ : ∃ j, i = k + j := ⟨i - k, by omega⟩
    rw [List.getElem?_append_right (by simp)] at e2
    have e2' : σ[j]? = some (some v) := by simpa using e2
    have e : (relabel scope X.env).names.lookup x = (scope.names.lookup x).map fun k => if (k == NameKind.free && X.env.scope.kind == .function && X.env.kindOf x == some .cell) then NameKind.cell else k := lookup_relabel
    have hfree : scope.names.lookup x = some .free := by
      cases q : scope.names.lookup x with
      | none =>
        rcases e3 with z | z | z
        all_goals (have z' : (relabel scope X.env).names.lookup x = some _ := z; rw [e, q] at z'; simp at z')
      | some j' =>
        have h1 : j' ≠ .cell := c.cell (x, j') (lookup_mem q)
        have h2 : j' ≠ .local := fun z => c.loc j x e1 (by rw [q, z])
        rcases e3 with z | z | z
        all_goals (have z' : (relabel scope X.env).names.lookup x = some _ := z; rw [e, q] at z'; cases j' <;> simp_all)
    have hX := c.sub j x e1 hfree
    have hcellX := c.free (x, .free) (lookup_mem hfree) rfl
    obtain ⟨m0, hn0, hl0⟩ := I.loc
    obtain ⟨u, r, l⟩ := hl0 j x v hX e2' (.inr (.inl hcellX))
    refine ⟨u, r, ?_⟩
    rcases l with ⟨z, _⟩ | ⟨_, a, ea, hz⟩
    · have z' : X.env.scope.names.lookup x = some .local := z
      rw [hcellX] at z'; cases z'
    · obtain ⟨a', ea'⟩ := clOf_has (acc := []) hcl hfree
      have e4 := sub x a' ea'
      rw [ea] at e4
      cases e4
      refine .inr ⟨.inl ?_, a, ea', ?_⟩
      · show (relabel scope X.env).names.lookup x = some .cell
        rw [e, hfree]
        have k1 : (X.env.scope.kind == .function) = true := by rw [I.ok.kind]; rfl
        have k2 : (X.env.kindOf x == some .cell) = true := by
          have : X.env.kindOf x = some .cell := hcellX
          rw [this]; rfl
        simp [k1, k2]
      · obtain ⟨o, h1, h2⟩ := hz
        exact ⟨o, hk _ _ h1, h2⟩
  · obtain ⟨v, o, h1, h2⟩ := I.cell x a (sub x a e)
    exact ⟨v, o, hk _ _ h1, h2⟩
  · have hp' : p ∈ X.pn ++ pins := by simpa using hp
    obtain ⟨e, n, nl, nf, d⟩ := I.pin p hp'
    refine ⟨hk _ _ e, n, ne _ _ e, fun z => ?_, d⟩
    rcases List.mem_cons.mp (I.stkSub _ z) with z | z
    · exact nl z
    · exact nf z
  · show (List.replicate k none ++ σ).length = N'.length
    rw [c.len, List.length_append, List.length_replicate, I.len]
/-- the block, whatever is done with the list behind it -/
theorem comp_block {elt iter tg : Expr} {ifs : List Expr} {scope : Scope} {pos : Pos} {g : TG} {tt : TT} {te : TE} {N' : List Str} {k : Nat} {it : Addr} {J : It} {fp : List Addr} {tn : Nat → Heap → Prop} {pins : List (Addr × Obj)} {σ : St} {H : Hp} {s : Shared} {Q : VK} {RR : Value → Addr → Result → Shared → Prop} {E : Value → Shared → Prop}
    (c : CompOk X scope N' k) (hc : X.calm = true) (I : Inv X pins σ H s) (T : Turn X.prog X.w X.K tg J fp it tn) (st : tn 0 s.heap) (hf : ∀ b ∈ fp, FpOk X pins H b)
    (hg : ∀ C s₀ H₀ ex pn, PG (cCx X scope N' C s₀ H₀ ex pn) tg g) (ht : ∀ C s₀ H₀ ex pn, PTs (cCx X scope N' C s₀ H₀ ex pn) ifs tt) (he : ∀ C s₀ H₀ ex pn, PE (cCx X scope N' C s₀ H₀ ex pn) elt te)
    (h : ∀ D, H D = none → ∃ W : Nat → Nat → List V → Hp → Prop, (∃ m, W 0 m [] (upd H D (.lst []))) ∧ ∀ i m ys H, W i m ys H →
      (J.stop i H ∧ Q (.ref D) H) ∨ (J.go i H ∧ ∃ N : List V → Hp → Prop, (∀ ys' H', N ys' H' → ∃ m', m' < m ∧ W (i + 1) m' ys' H') ∧
        ∀ x H', J.yld i H x H' → g x (List.replicate k none ++ σ) H' fun σ2 H2 => (∃ vs : St, vs.length = k ∧ σ2 = vs ++ σ) ∧ tt σ2 H2 fun b H3 => if b = true then te σ2 H3 fun y H4 => H4 D = some (.lst ys) ∧ ys.length < sizeLine ∧ N (ys ++ [y]) (upd H4 D (.lst (ys ++ [y]))) else N ys H3))
    (fin : ∀ D C s' H' m, s'.heap.Ns C m → C ≠ X.env.locals → (∀ x a, X.env.cells.lookup x = some a → a ≠ C) → (H' C = none ∧ X.s₀.heap.objs.size ≤ C ∧ ∀ p ∈ X.pn ++ pins, p.1 ≠ C) → (∀ h', Heap.SameBut C s'.heap h' → Inv X pins σ H' { s' with heap := h' }) → Q (.ref D) H' → RR (.ref D) C (.ok .next) s') :
    wpAny (model X.prog X.w) X.A (newList []) (fun acc s₃ => wpAny (model X.prog X.w) X.A (newFunctionEnv scope X.env.globals (clOf X.env.cells scope.names []) [] X.env.qual none .none (some X.env)) (fun cenv s₄ =>
      codeAny (model X.prog X.w) X.A (.compStart (.ListComp elt [⟨tg, iter, ifs, 0⟩] scope pos) 0 (.ref it) acc { cenv with scope := relabel scope X.env }) (RR acc cenv.locals) s₄) E s₃) E s := by
  refine wpAny_newObj_type (wpAny_newFunctionEnv c.cell (by intro y hy; simp at hy) (fun h₁ hns₁ hsb₁ => ?_) c.kind)
  dsimp only at hns₁ hsb₁ ⊢
  have I3 : Inv X pins σ (upd H s.heap.objs.size (.lst [])) { s with heap := s.heap.push { cls := .type "list", data := .seq ([] : List Value).toArray }, toks := s.toks } := I.lnew (ys := []) (its := []) .nil (Nat.zero_le _)
  generalize hH2 : s.heap.push { cls := .type "list", dict := none, data := .seq ([] : List Value).toArray } = hp at hns₁ hsb₁ I3 ⊢
  have hlt : ∀ b o, s.heap.get? b = some o → hp.get? b = some o := fun b o e => by rw [← hH2]; exact Heap.get?_push_of_some _ e
  have hnD : H s.heap.objs.size = none := I.hok.fresh (Nat.le_refl _)
  have kp : ∀ b o, hp.get? b = some o → h₁.get? b = some o := fun b o e => hsb₁.extBut b o (Nat.ne_of_lt (Heap.lt_size e)) (Heap.get?_push_of_some _ e)
  have stk : ∀ b ∈ fp, s.heap.get? b ≠ none := fun b hb z => by
    obtain ⟨o, e, _⟩ := T.obj _ _ st b hb
    rw [z] at e; cases e
  have flt : ∀ b ∈ fp, b < s.heap.objs.size := fun b hb => by
    obtain ⟨o, e, _⟩ := T.obj _ _ st b hb
    exact Heap.lt_size e
  have fpD : ∀ b ∈ fp, b ≠ s.heap.objs.size := fun b hb => Nat.ne_of_lt (flt b hb)
  have hf3 : ∀ b ∈ fp, FpOk X pins (upd H s.heap.objs.size (.lst [])) b := fun b hb => by
    obtain ⟨a1, a2⟩ := hf b hb
    exact ⟨by rw [upd_ne (fpD b hb)]; exact a1, a2⟩
  have hnb : ∀ b ∈ fp, X.base.get? b = none := fun b hb => by
    cases e : X.base.get? b with
    | none => rfl
    | some o =>
      rcases (hf b hb).2.2.2.1 with z | z
      · exact absurd z (I.ok.noex b o e)
      · have := Heap.lt_size (I.ok.bs b o e).1
        exact absurd (Nat.lt_of_lt_of_le this z) (Nat.lt_irrefl _)
  have hsz : s.heap.objs.size < hp.objs.size := by rw [← hH2, Heap.size_push]; exact Nat.lt_succ_self _
  have IY := inv_comp (s₄ := { s with heap := h₁, toks := s.toks + ([] : List (Str × Value)).length }) (fp := fp) c hc I3 hf3 (fun b hb => Nat.lt_trans (flt b hb) hsz) hnb hns₁ kp rfl rfl
  obtain ⟨W, ⟨m0, w0⟩, turn⟩ := h s.heap.objs.size hnD
  have run := comp_loop (Y := cCx X scope N' hp.objs.size { s with heap := hp, toks := s.toks } (upd H s.heap.objs.size (.lst [])) fp (X.pn ++ pins)) (tg := tg) (elt := elt) (iter := iter) (ifs := ifs) (scope := scope) (pos := pos) (it := it) (D := s.heap.objs.size) (k := k) (σ := σ) (Q := Q)
    hc rfl (hg _ _ _ _ _) (ht _ _ _ _ _) (he _ _ _ _ _) T (fun H' hn b hb => ⟨hn b hb, Nat.ne_of_lt (Nat.lt_trans (flt b hb) hsz), fun z => (IY.ok.exfs b hb) z, .inl hb, fun x a e => (IY.ok.exf b hb).2 x a e, fun p hp => by
      have hp' : p ∈ X.pn ++ pins := by simpa using hp
      exact (hf b hb).2.2.2.2.2 p hp'⟩) W turn m0
  have st₁ : tn 0 h₁ := T.keep _ _ _ st fun b hb o e => kp b o (hlt b o e)
  have go := run { s with heap := h₁, toks := s.toks + ([] : List (Str × Value)).length } ⟨0, [], _, IY, st₁, fun b hb => (hf3 b hb).1, w0⟩
  have out : ∀ r s', (r = Except.ok Flow.next ∧ ∃ H', Inv (cCx X scope N' hp.objs.size { s with heap := hp, toks := s.toks } (upd H s.heap.objs.size (.lst [])) fp (X.pn ++ pins)) [] (List.replicate k none ++ σ) H' s' ∧ Q (.ref s.heap.objs.size) H') → RR (.ref s.heap.objs.size) hp.objs.size r s' := by
    rintro r s' ⟨rfl, H', J', q⟩
    obtain ⟨m, hn, _⟩ := J'.loc
    have hC : hp.objs.size ≠ X.env.locals := Nat.ne_of_gt (Nat.lt_of_lt_of_le I.lt (Nat.le_of_lt hsz))
    refine fin _ _ s' H' m hn hC (fun x a e => ?_) ⟨J'.free, Nat.le_trans I.sz (Nat.le_of_lt hsz), fun p hp' => Nat.ne_of_lt (Nat.lt_trans (Heap.lt_size (I.pin p hp').1) hsz)⟩ (fun h' hs' => ?_) q
    · obtain ⟨v, o, h1, _⟩ := I.cell x a e
      exact Nat.ne_of_lt (Nat.lt_trans (Heap.lt_size h1) hsz)
    · refine I.call' (ch := fp) ?_ ?_ ?_ J'.bare fun b hb => ⟨(hf b hb).2.2.2.1, (hf b hb).2.1, (hf b hb).2.2.2.2.1, (hf b hb).2.2.2.2.2⟩
      · exact J'.os
      · have u1 : Un (frs X.stack) fp H (upd H s.heap.objs.size (.lst [])) s.heap hp := Un.laid hlt (Nat.le_refl _) hnD
        exact (u1.trans J'.base).but hs' fun b o e => Nat.ne_of_lt (Nat.lt_trans (Heap.lt_size e) hsz)
      · exact J'.hok.but J'.free hs'
  exact codeAny_compStart_list (codeAny_mono go out) (T.self _ 0 _ _ _ st₁ (codeAny_mono go out))
theorem pe_comp {elt iter tg : Expr} {ifs : List Expr} {scope : Scope} {pos : Pos} {wi : TI} {g : TG} {tt : TT} {te : TE} {N' : List Str} {k : Nat}
    (c : CompOk X scope N' k) (hc : X.calm = true) (hi : PI X tg iter wi)
    (hg : ∀ C s₀ H₀ ex pn, PG (cCx X scope N' C s₀ H₀ ex pn) tg g) (ht : ∀ C s₀ H₀ ex pn, PTs (cCx X scope N' C s₀ H₀ ex pn) ifs tt) (he : ∀ C s₀ H₀ ex pn, PE (cCx X scope N' C s₀ H₀ ex pn) elt te)
    (hs : ∀ x, foldedSetIterable iter X.env x = pure x := by intro _; rfl) : PE X (.ListComp elt [⟨tg, iter, ifs, 0⟩] scope pos) (tComp k wi g tt te) := by
  intro pins s σ H Q I h
  rw [PySem.eval_ListComp]
  refine PySem.wpAny_comprehension_free (use := none) rfl hs (closureFor_eq (c.cells I)) c.kind c.names (thn (hi pins s σ H _ I h) fun v s1 h1 => thn h1 fun itv s2 h2 => ?_)
  obtain ⟨it, fp, tn, J, H2, rfl, I2, T, st2, f2, hW⟩ := h2
  refine comp_block (RR := fun acc C => PySem.compPost (model X.prog X.w) X.A X.xe none (EP X pins σ Q) acc C) c hc I2 T st2 f2 hg ht he hW ?_
  intro D C s' H' m hn _ _ _ hI q
  exact ⟨m, hn, fun h' hs' => ⟨.ref D, H', hI h' hs', rfl, q⟩⟩
/-- name = [elt for ..]: the list is stored ahead of the block's end -/
def tSetC (i : Nat) (te : TE) : TS := fun D σ H => te σ H fun x H1 => D.nx (σ.set i (some x)) H1
end
end L2

set_option Elab.async false
set_option linter.all false
set_option maxRecDepth 100000
set_option maxHeartbeats 4000000
namespace L2
open PySem PySem.Spec PyProof.Rows
/-! ### exceptions of own classes -/
/-- an exception in flight: its class, the head of its trace -/
def ExcAt (h : Heap) (e : Addr) (cls : Value) (d : Option Addr) (T : Addr) : Prop :=
  ∃ oe vs oT ts, h.get? e = some oe ∧ oe.cls = cls ∧ oe.dict = d ∧ oe.data = .fields vs ∧ vs[1]? = some (.ref T) ∧ T ≠ e ∧ h.get? T = some oT ∧ oT.data = .fields ts ∧ ts[3]? = some .none
/-- how it lies behind a call -/
def CX1 (P : Program) (w : World) : CXT := fun outer H s E ev s' => ∃ e T cls d H', ev = .ref e ∧ s'.os = s.os ∧ AllBare s'.gens ∧ Un (frs outer) [] H H' s.heap s'.heap ∧ HOk P w H' s'.heap ∧
  s.heap.get? e = none ∧ s.heap.get? T = none ∧ H' e = none ∧ H' T = none ∧ ExcAt s'.heap e cls d T ∧ (∀ dx, d = some dx → ∃ fs, H' dx = some (.xd fs)) ∧ E cls d H'
theorem dict_mapF (f : Array Value → Array Value) (o : Obj) : (Obj.mapFields f o).dict = o.dict := by
  unfold Obj.mapFields; split <;> rfl
/-- what noting a frame leaves: all but the exception, its old head, the frames' slots -/
structure Noted (fs : List Addr) (e : Addr) (no : Addr → Prop) (h h' : Heap) : Prop where
  keep : ∀ b o, b ≠ e → ¬ no b → b ∉ fs → h.get? b = some o → h'.get? b = some o
  slot : ∀ b o, b ≠ e → ¬ no b → b ∈ fs → h.get? b = some o → ∃ sl, h'.get? b = some { o with slots := sl }
  size : h.objs.size ≤ h'.objs.size
section
variable {M : Model} {A : Around} {E : Value → Shared → Prop} {s : Shared}
theorem entry1 {base : Heap} {env : Env} {outer : List Env} {L e : Addr} {oe : Obj} {vs : Array Value} {head : Value} {hadNext : Bool} {Q : Unit → Shared → Prop}
    (hfr : A.frames = some (env :: outer)) (hl : s.heap.FunFrames base (env :: outer)) (hf : env.frame = some L) (he : s.heap.get? e = some oe) (hd : oe.data = .fields vs) (hsz : 1 < vs.size)
    (hQ : ∀ h', Noted (frs (env :: outer)) e (fun _ => False) s.heap h' → (∃ T oe' vs' oT ts, s.heap.get? T = none ∧ h'.get? e = some oe' ∧ oe'.cls = oe.cls ∧ oe'.dict = oe.dict ∧ oe'.data = .fields vs' ∧ vs'[1]? = some (.ref T) ∧ T ≠ e ∧ h'.get? T = some oT ∧ oT.data = .fields ts ∧ ts[3]? = some (rawInt L)) → Q () { s with heap := h' }) :
    wpAny M A (do let a ← frameOf env; let pl ← entryPlaceOf L hadNext; let b ← EntryCells.newEntry head a .none (rawInt L) .none pl; setField (.ref e) 1 b) Q E s := by
  have efr : e ∉ frs (env :: outer) := fun z => by
    obtain ⟨_, o, q1, q2⟩ := hl.mem z
    rw [he] at q1
    cases q1
    exact q2 vs hd
  refine wpAny_bind (wpAny_frameOf_fun hfr hl hf fun g1 sg => ?_)
  refine wpAny_bind (wpAny_entryPlaceOf fun pl ipl => ?_)
  unfold EntryCells.newEntry newFields
  refine wpAny_bind (wpAny_newObj_type ?_ (ipl.sizeOk5 _ _ _ _ _))
  have e1 : g1.get? e = some oe := (sg.2.1 e efr).trans he
  generalize hnew : ({ cls := .type "traceback", dict := none, data := .fields ([head, .ref L, .none, rawInt L, .none] ++ (if pl.isEmpty then List.replicate 6 Value.none else pl)).toArray } : Obj) = oN
  have dN : oN.data = .fields ([head, .ref L, .none, rawInt L, .none] ++ (if pl.isEmpty then List.replicate 6 Value.none else pl)).toArray := by rw [← hnew]
  have e2 : (g1.push oN).get? e = some oe := Heap.get?_push_of_some _ e1
  refine wpAny_setField e2 hd hsz (hQ _ ?_ ?_)
  · have other : ∀ b o, b ≠ e → g1.get? b = some o → ((g1.push oN).update e (Obj.mapFields (·.setIfInBounds 1 (Value.ref g1.objs.size)))).get? b = some o := fun b o hb q => by
      rw [Heap.get?_update_other _ _ (Ne.symm hb)]
      exact Heap.get?_push_of_some _ q
    refine ⟨fun b o hb _ hfs q => other b o hb ((sg.2.1 b hfs).trans q), fun b o hb _ _ q => ?_, ?_⟩
    · obtain ⟨sl, q'⟩ := sg.2.2 b o q
      exact ⟨sl, other b _ hb q'⟩
    · have z1 : g1.objs.size = s.heap.objs.size := sg.1
      have z2 := ((Heap.SameBut.update (g1.push oN) e (Obj.mapFields (·.setIfInBounds 1 (Value.ref g1.objs.size))))).1
      rw [z2, Heap.size_push]
      omega
  · have ne : g1.objs.size ≠ e := Nat.ne_of_gt (Heap.lt_size e1)
    have d3 := Obj.data_mapFields hd (·.setIfInBounds 1 (Value.ref g1.objs.size))
    refine ⟨g1.objs.size, _, _, oN, _, ?_, Heap.get?_update_self _ e2 (Obj.isFreed_of_fields d3), Obj.cls_mapFields _ _, dict_mapF _ _, d3, by simp [hsz], ne, ?_, dN, by simp⟩
    · have z1 : g1.objs.size = s.heap.objs.size := sg.1
      rw [z1]
      exact Heap.get?_none_of_le (Nat.le_refl _)
    · rw [Heap.get?_update_other _ _ (Ne.symm ne)]
      exact Heap.get?_push_size _ (Obj.isFreed_of_fields dN)
/-- the head's flight is ended -/
theorem flight0 {e T : Addr} {oe oT : Obj} {vs ts : Array Value} {Q : Unit → Shared → Prop} (he : s.heap.get? e = some oe) (hd : oe.data = .fields vs) (h1 : vs[1]? = some (.ref T)) (hT : s.heap.get? T = some oT) (hdT : oT.data = .fields ts) (h3 : 3 < ts.size) (ne : T ≠ e)
    (hQ : ∀ h', (∀ b, b ≠ T → h'.get? b = s.heap.get? b) → h'.objs.size = s.heap.objs.size → ExcAt h' e oe.cls oe.dict T → Q () { s with heap := h' }) : wpAny M A (setFlight (.ref e) none) Q E s := by
  unfold setFlight
  refine wpAny_bind (wpAny_field he hd h1 ?_)
  rw [if_pos (show (Value.ref T != Value.none) = true from by simp)]
  have sb := Heap.SameBut.update s.heap T (Obj.mapFields (·.setIfInBounds 3 ((none : Option Addr).elim Value.none fun f => rawInt f)))
  refine wpAny_setField hT hdT h3 (hQ _ sb.2 sb.1 ?_)
  have d3 := Obj.data_mapFields hdT (·.setIfInBounds 3 ((none : Option Addr).elim Value.none fun f => rawInt f))
  exact ⟨oe, vs, _, _, (sb.2 e (Ne.symm ne)).trans he, rfl, rfl, hd, h1, ne, Heap.get?_update_self _ hT (Obj.isFreed_of_fields d3), d3, by simp [h3]⟩
/-- a new exception is noted, its flight ended: as it leaves its frame, or is caught in it -/
theorem note_new {base : Heap} {env : Env} {outer : List Env} {L e : Addr} {oe : Obj} {vs : Array Value} {Q : Unit → Shared → Prop}
    (hfr : A.frames = some (env :: outer)) (hl : s.heap.FunFrames base (env :: outer)) (hf : env.frame = some L) (he : s.heap.get? e = some oe) (hd : oe.data = .fields vs) (h1 : vs[1]? = some .none)
    (hQ : ∀ h' T, Noted (frs (env :: outer)) e (fun _ => False) s.heap h' → s.heap.get? T = none → ExcAt h' e oe.cls oe.dict T → Q () { s with heap := h' }) :
    wpAny M A (noteFrame (.ref e) env) (fun _ s2 => wpAny M A (setFlight (.ref e) none) Q E s2) E s := by
  unfold noteFrame
  simp only [hf]
  refine wpAny_bind (wpAny_field he hd h1 ?_)
  rw [if_neg (by decide)]
  refine entry1 hfr hl hf he hd (Array.getElem?_eq_some_iff.mp h1).1 fun g ng hx => ?_
  obtain ⟨T, oe', vs', oT, ts, nT, q1, q2, q2d, q3, q4, ne, q5, q6, q7⟩ := hx
  refine flight0 (s := { s with heap := g }) q1 q3 q4 q5 q6 (Array.getElem?_eq_some_iff.mp q7).1 ne fun g' sb sz ex => ?_
  rw [q2, q2d] at ex
  have lt : ∀ b o, s.heap.get? b = some o → b ≠ T := fun b o q z => by rw [z, nT] at q; cases q
  exact hQ g' T ⟨fun b o hb hn hfs q => (sb b (lt b o q)).trans (ng.keep b o hb hn hfs q), fun b o hb hn hfs q => by
    obtain ⟨sl, q'⟩ := ng.slot b o hb hn hfs q
    exact ⟨sl, (sb b (lt b o q)).trans q'⟩, Nat.le_trans ng.size (Nat.le_of_eq sz.symm)⟩ nT ex
/-- .. one that comes from a callee -/
theorem note_next {base : Heap} {env : Env} {outer : List Env} {L e T : Addr} {cls : Value} {dd : Option Addr} {Q : Unit → Shared → Prop}
    (hfr : A.frames = some (env :: outer)) (hl : s.heap.FunFrames base (env :: outer)) (hf : env.frame = some L) (hx : ExcAt s.heap e cls dd T) (hfe : e ∉ frs (env :: outer)) (hfT : T ∉ frs (env :: outer)) (hb : base.get? T = none)
    (hQ : ∀ h' T', Noted (frs (env :: outer)) e (fun b => b = T) s.heap h' → s.heap.get? T' = none → ExcAt h' e cls dd T' → Q () { s with heap := h' }) :
    wpAny M A (noteFrame (.ref e) env) (fun _ s2 => wpAny M A (setFlight (.ref e) none) Q E s2) E s := by
  obtain ⟨oe, vs, oT, ts, he, rfl, rfl, hd, h1, ne, hT, hdT, h3⟩ := hx
  unfold noteFrame
  simp only [hf]
  refine wpAny_bind (wpAny_field he hd h1 ?_)
  rw [if_pos (show (Value.ref T != Value.none) = true from by simp)]
  refine wpAny_bind (wpAny_field hT hdT h3 ?_)
  rw [if_neg (show ¬ ((Value.none == rawInt L) = true) from by simp [rawInt])]
  have sb0 := Heap.SameBut.update s.heap T (Obj.mapFields (·.setIfInBounds 3 Value.none))
  refine wpAny_bind (wpAny_setField hT hdT (Array.getElem?_eq_some_iff.mp h3).1 ?_)
  generalize hg0 : s.heap.update T (Obj.mapFields (·.setIfInBounds 3 Value.none)) = g0 at sb0
  have fl : g0.FunFrames base (env :: outer) := hl.of_keeps fun b o q hnf => ⟨o, (sb0.2 b (fun z => by rw [z, hT] at q; cases q; exact hnf ts hdT)).trans q, rfl⟩
  have he0 : g0.get? e = some oe := (sb0.2 e (Ne.symm ne)).trans he
  refine entry1 (s := { s with heap := g0 }) hfr fl hf he0 hd (Array.getElem?_eq_some_iff.mp h1).1 fun g ng hx => ?_
  obtain ⟨T', oe', vs', oT', ts', nT, q1, q2, q2d, q3, q4, ne', q5, q6, q7⟩ := hx
  refine flight0 (s := { s with heap := g }) q1 q3 q4 q5 q6 (Array.getElem?_eq_some_iff.mp q7).1 ne' fun g' sb sz ex => ?_
  rw [q2, q2d] at ex
  have tT : T ≠ T' := fun z => by
    subst z
    have := Heap.get?_update_self (Obj.mapFields (·.setIfInBounds 3 Value.none)) hT (Obj.isFreed_of_fields (Obj.data_mapFields hdT _))
    rw [hg0] at this
    have nT' : g0.get? T = none := nT
    rw [this] at nT'
    cases nT'
  have nT0 : s.heap.get? T' = none := (sb0.2 T' (Ne.symm tT)).symm.trans nT
  have lt : ∀ b o, s.heap.get? b = some o → b ≠ T' := fun b o q z => by rw [z, nT0] at q; cases q
  exact hQ g' T' ⟨fun b o hb hn hfs q => (sb b (lt b o q)).trans (ng.keep b o hb (fun z => z) hfs ((sb0.2 b hn).trans q)), fun b o hb hn hfs q => by
    obtain ⟨sl, q'⟩ := ng.slot b o hb (fun z => z) hfs ((sb0.2 b hn).trans q)
    exact ⟨sl, (sb b (lt b o q)).trans q'⟩, Nat.le_trans (Nat.le_of_eq sb0.1.symm) (Nat.le_trans ng.size (Nat.le_of_eq sz.symm))⟩ nT0 ex
end
/-- the abstract heap through it -/
theorem HOk.noted {P : Program} {w : World} {H : Hp} {h h' : Heap} {fs : List Addr} {e : Addr} {no : Addr → Prop} (ok : HOk P w H h) (n : Noted fs e no h h') (he : H e = none) (hn : ∀ b, no b → H b = none) (hf : ∀ b ∈ fs, H b = none) : HOk P w H h' := fun b ob q => by
  refine (ok b ob q).stay (fun c v hc r => n.keep c v ?_ ?_ ?_ r) (fun _ z => z) fun _ _ z => z
  all_goals
    rcases hc with z | z
    all_goals intro k
  · rw [← z, k, he] at q; cases q
  · rw [k, he] at z; cases z
  · rw [← z, hn _ k] at q; cases q
  · rw [hn _ k] at z; cases z
  · rw [← z, hf _ k] at q; cases q
  · rw [hf _ k] at z; cases z
theorem Un.noted {fs fs' : List Addr} {H H' : Hp} {h h1 h2 : Heap} {e : Addr} {no : Addr → Prop} (u : Un fs [] H H' h h1) (n : Noted fs' e no h1 h2) (he : h.get? e = none) (hn : ∀ b, no b → h.get? b = none) (hs : ∀ b ∈ fs', b ∈ fs ∨ h.get? b = none) : Un fs [] H H' h h2 := by
  have ne : ∀ b o, h.get? b = some o → b ≠ e ∧ ¬ no b := fun b o q => ⟨fun z => (by rw [z, he] at q; cases q), fun z => (by rw [hn b z] at q; cases q)⟩
  have nf : ∀ b o, h.get? b = some o → b ∉ fs → b ∉ fs' := fun b o q hb z => by
    rcases hs b z with k | k
    · exact hb k
    · rw [k] at q; cases q
  refine ⟨fun b o q a hb hx => n.keep b o (ne b o q).1 (ne b o q).2 (nf b o q hb) (u.keep b o q a hb hx), fun b o q a hb hx => ?_, u.free, fun b o q hx => ?_, u.tups, u.frzs, u.tbls⟩
  · obtain ⟨sl, r⟩ := u.slot b o q a hb hx
    by_cases hb' : b ∈ fs'
    · obtain ⟨sl', r'⟩ := n.slot b _ (ne b o q).1 (ne b o q).2 hb' r
      exact ⟨sl', r'⟩
    · exact ⟨sl, n.keep b _ (ne b o q).1 (ne b o q).2 hb' r⟩
  · obtain ⟨o', r⟩ := u.there b o q hx
    by_cases hb' : b ∈ fs'
    · obtain ⟨sl', r'⟩ := n.slot b _ (ne b o q).1 (ne b o q).2 hb' r
      exact ⟨_, r'⟩
    · exact ⟨_, n.keep b _ (ne b o q).1 (ne b o q).2 hb' r⟩
/-- what this body wants of an exception that is raised at these values -/
def PassAt (CX : CXT) (X : Cx) (E : XK) (σ : St) : Prop := ∀ (pins : List (Addr × Obj)) (H : Hp) (s : Shared) (e : Value) (s' : Shared), Inv X pins σ H s → CX X.stack H s E e s' → X.xe e s'
theorem ObjOk.there {P : Program} {w : World} {H : Hp} {h : Heap} {a : Addr} {o : HO} (x : ObjOk P w H h a o) : ∃ ob, h.get? a = some ob := by
  cases o with
  | lst xs => obtain ⟨_, _, _, _, e⟩ := x; exact ⟨_, e⟩
  | tup xs => obtain ⟨_, _, _, ob, e, _⟩ := x; exact ⟨ob, e⟩
  | dK kvs => obtain ⟨_, _, _, _, ob, _, _, e, _⟩ := x; exact ⟨ob, e⟩
  | dT kvs => obtain ⟨_, _, _, _, ob, _, _, e, _⟩ := x; exact ⟨ob, e⟩
  | set S n => obtain ⟨ob, _, _, _, e, _⟩ := x; exact ⟨ob, e⟩
  | ins C dx fs => obtain ⟨_, _, _, e, _⟩ := x; exact ⟨_, e⟩
  | own y => exact x
  | xd fs => obtain ⟨_, ⟨ob, _, _, e, _⟩, _⟩ := x; exact ⟨ob, e⟩
  | rng lo hi => obtain ⟨_, _, _, e⟩ := x; exact ⟨_, e⟩
  | frz ob u => exact ⟨_, x.1⟩
  | tbl ps => exact ⟨_, x⟩
  | met f y => exact ⟨_, x⟩
  | ext φ => exact x.2.1
theorem HOk.gone {P : Program} {w : World} {H : Hp} {h : Heap} {a : Addr} (ok : HOk P w H h) (e : h.get? a = none) : H a = none := by
  cases q : H a with
  | none => rfl
  | some o =>
    obtain ⟨ob, z⟩ := (ok a o q).there
    rw [e] at z; cases z
theorem Un.gone {fs : List Addr} {H H' : Hp} {h h1 : Heap} {a : Addr} (u : Un fs [] H H' h h1) (e : h1.get? a = none) : h.get? a = none := by
  cases q : h.get? a with
  | none => rfl
  | some o =>
    obtain ⟨o', z⟩ := u.there a o q (by simp)
    rw [e] at z; cases z
/-- .. what a callee raised passes on -/
theorem passes_def {P : Program} {w : World} {K : PySem.W.Frag} {mg : Str → Option Value} {base : Heap} {N : List Str} {qual : Str} {scope : Scope} {f : Addr} {cd : Value} {A : Around} {outer : List Env} {s₀ : Shared} {H₀ : Hp} {E : XK} :
    Passes (CX1 P w) (cxOf (CX1 P w) P w K mg base N qual scope f cd A outer s₀ H₀ E) E := by
  intro pins σ H s ev s' I hc
  obtain ⟨e, T, cls, dd, H', rfl, os, bare, un1, hok, ne, nT, He, HT, ex, hxd, hE⟩ := hc
  show wpAny (model P w) (A.deeper (envOfC qual scope s₀.heap.objs.size f cd)) (leaving (envOfC qual scope s₀.heap.objs.size f cd) (.ref e)) _ _ _
  unfold leaving
  have I2 : Inv _ pins σ H' s' := I.call' (ch := []) os un1 hok bare (fun b z => absurd z (by simp))
  have nf : ∀ b, s.heap.get? b = none → b ∉ frs (envOfC qual scope s₀.heap.objs.size f cd :: outer) := fun b hb z => by
    obtain ⟨_, o, q, _⟩ := I.stack.mem z
    rw [hb] at q; cases q
  have nb : base.get? T = none := by
    cases q : base.get? T with
    | none => rfl
    | some o =>
      have := I.bk T o q
      rw [nT] at this; cases this
  have fl : s'.heap.FunFrames base (envOfC qual scope s₀.heap.objs.size f cd :: outer) := I2.stack
  refine wpAny_bind (note_next (base := base) (outer := outer) I.ok.frames fl rfl ex (nf e ne) (nf T nT) nb fun g T' ng nT' ex' => ?_)
  have un0 : Un (frs outer) [] H₀ H s₀.heap s.heap := I.base
  have un2 : Un (frs outer) [] H₀ H' s₀.heap s'.heap := I2.base
  refine ⟨e, T', cls, dd, H', rfl, I2.os, bare, un2.noted ng (un0.gone ne) (fun b z => by rw [z]; exact un0.gone nT) (fun b hb => ?_), hok.noted ng He (fun b z => by rw [z]; exact HT) I2.stkFree, un0.gone ne, un2.gone nT', He, hok.gone nT', ex', hxd, hE⟩
  rcases List.mem_cons.mp (I.stkSub b hb) with z | z
  · exact .inr (by rw [z]; exact Heap.get?_none_of_le (Nat.le_refl _))
  · exact .inl z
section
variable {X : Cx}
/-- a call whose exception is wanted by the values that stand -/
def tCallX (sp : Sp) (dvs : List V) (E : St → XK) (t : TA) : TE := fun σ H Q => t σ H fun vs H1 => sp (vs ++ dvs) H1 Q (E σ)
theorem pe_callX {CX : CXT} {k : Nat} {f : Addr} {fd : FuncData} {ps : List Str} {sp : Sp} {ds : List Value} {dvs : List V} {E : St → XK} {x : Str} {e : Expr} {es : List Expr} {t : TA} {p pos : Pos}
    (F : FnOk X.prog X.w X.K X.mg X.base CX k f fd ps sp) (hr : Room k X.A) (hg : Gl X x) (hm : X.mg x = some (.ref f)) (hk : PySem.W.keepIn X.K (.ref f) = true) (hb : Binds X.K fd ps ds) (hd : Vals dvs ds) (hx : ∀ σ, PassAt CX X (E σ) σ)
    (ha : PA X (e :: es) t) (hdb : (x == ("__debug__" : Str)) = false := by decide) (he : starEach (e :: es) X.env = (false, eval e X.env) :: starEach es X.env := by rfl) (hpl : (backTo pos (starEach es X.env)).any (·.1) = false := by rfl) :
    PE X (.Call (.Name x p) (e :: es) [] pos) (tCallX sp dvs E t) := by
  intro pins s σ H Q I h
  refine wpAny_Call_Name_kw (ld_glob I hg hm ?_ hdb)
  refine PySem.W.callWith_K (h₀ := X.base) I.ok.mod.kin hk (thn (ha pos pins s σ H _ I h) fun us s1 ⟨vs, H1, I1, r, q⟩ => ⟨I1.kIn, ?_⟩) he hpl
  have r2 : Vals (vs ++ dvs) (us ++ ds) := r.append hd
  have hl : (us ++ ds).length = ps.length := by rw [← r2.length]; exact F.len _ _ _ _ q
  refine wpAny_call (codeAny_mono (F.run X.A X.stack s1 H1 ⟨us, []⟩ (us ++ ds) (vs ++ dvs) Q (E σ) hr I1.env0 (hb s1 us I1.kIn hl) r2 q) fun rr s' hq => ?_)
  cases rr with
  | error ev => exact hx σ pins H1 s1 ev s' I1 hq
  | ok fl =>
    cases fl with
    | ret u => exact I1.after hq
    | next => exact False.elim hq
    | brk => exact False.elim hq
    | cont => exact False.elim hq
/-- an own exception class, right or further under ValueError, without __init__ -/
structure OwnE (K : PySem.W.Frag) (C : Addr) : Prop where
  ex : PySem.W.excIn K C [.type "ValueError", .type "Exception", .type "BaseException", .type "object"] "ValueError.__new__" = true
/-- raise C(text) -/
def tRaise (C : Addr) (E : St → XK) (t : TA) : TS := fun _ σ H => t σ H fun vs H1 => vs.length ≤ sizeLine ∧ E σ (.ref C) none H1
/-! ### try -/
/-- within an except suite -/
abbrev Cx.mark (X : Cx) (e : Addr) : Cx := { X with A := X.A.mark (some (.ref e)), calm := false, xe := fun _ _ => False }
theorem Inv.mark {pins : List (Addr × Obj)} {σ : St} {H : Hp} {s : Shared} (I : Inv X pins σ H s) (e : Addr) : Inv (X.mark e) pins σ H s :=
  ⟨⟨I.ok.mod, I.ok.kind, I.ok.glob, I.ok.blt, I.ok.above, I.ok.inj, I.ok.has, I.ok.cab, (fun z => by cases z), I.ok.frames, I.ok.stk, I.ok.exf, I.ok.bs, I.ok.bsz, I.ok.noex, I.ok.exfs, I.ok.funs, I.ok.frf⟩, I.os, I.bare, I.base, I.loc, I.cell, I.free, I.freeC, I.pin, I.hok, I.len⟩
theorem Inv.unmark {pins : List (Addr × Obj)} {σ : St} {H : Hp} {s : Shared} {e : Addr} (ok : X.Ok) (I : Inv (X.mark e) pins σ H s) : Inv X pins σ H s :=
  ⟨ok, I.os, I.bare, I.base, I.loc, I.cell, I.free, I.freeC, I.pin, I.hok, I.len⟩
end
end L2

set_option Elab.async false
set_option linter.all false
set_option maxRecDepth 100000
set_option maxHeartbeats 4000000
namespace L2
open PySem PySem.Spec PyProof.Rows
/-! ### a def with defaults, a def that raises -/
structure FunX (K : PySem.W.Frag) (x qual : Str) (st : Stmt) (f : Addr) (fd : FuncData) : Prop where
  ex : ∃ (oc : Value) (od : Option Addr) (dV kV doc pm : Value) (an : Option Addr) (cdv ct : Value) (osl : Array (Option Value)),
    fd = PySem.W.fnOf x qual (defArgs st) (defBody st) (defScope st) dV kV doc pm an cdv ct ∧ K.lookup f = some ⟨oc, od, .func fd, osl⟩ ∧ PySem.W.codeIn K cdv qual = true
  kp : PySem.W.keepIn K (.ref f) = true
section
variable {P : Program} {w : World} {K : PySem.W.Frag} {mg : Str → Option Value} {base : Heap}
theorem FunX.ok {CX : CXT} {x qual : Str} {st : Stmt} {f : Addr} {fd : FuncData} {N ps : List Str} {k : Nat} {sp : Sp} (F : FunX K x qual st f fd) (S : FnScope N ps (defScope st)) (len : ∀ vs H Q E, sp vs H Q E → vs.length = ps.length)
    (hbody : ∀ (cdv : Value) (A : Around) (outer : List Env) (s : Shared) (H : Hp) (vs : List V) (Q : VK) (E : XK), Room k (A.deeper (envOfC qual (defScope st) s.heap.objs.size f cdv)) → sp vs H Q E →
      ∃ t, PSs (cxOf CX P w K mg base N qual (defScope st) f cdv A outer s H E) (defBody st) t ∧ t { nx := fun _ H' => Q .non H', rt := Q } (start N vs) H) : FnOk P w K mg base CX (k + 1) f fd ps sp := by
  obtain ⟨oc, od, dV, kV, doc, pm, an, cdv, ct, osl, rfl, lk, hcd⟩ := F.ex
  exact fn_of lk hcd S len fun A outer s H vs Q E hr hsp => hbody cdv A outer s H vs Q E hr hsp
theorem FunX.binds {x qual : Str} {st : Stmt} {f : Addr} {fd : FuncData} {ps : List Str} (F : FunX K x qual st f fd)
    (h : ∀ (dV kV doc pm : Value) (an : Option Addr) (cdv ct : Value) (us : List Value), us.length = ps.length → bindArgs (PySem.W.fnOf x qual (defArgs st) (defBody st) (defScope st) dV kV doc pm an cdv ct) ⟨us, []⟩ = pure (ps.zip us)) : Binds K fd ps [] := by
  obtain ⟨oc, od, dV, kV, doc, pm, an, cdv, ct, osl, rfl, lk, hcd⟩ := F.ex
  exact .all (h dV kV doc pm an cdv ct)
theorem funX_mk {x qual : Str} {st : Stmt} {f : Addr} {oc : Value} {od an : Option Addr} {osl : Array (Option Value)} {dV kV doc pm cdv ct : Value} (l : K.lookup f = some ⟨oc, od, .func (PySem.W.fnOf x qual (defArgs st) (defBody st) (defScope st) dV kV doc pm an cdv ct), osl⟩)
    (c : PySem.W.codeIn K cdv qual = true) (k : PySem.W.keepIn K (.ref f) = true) : FunX K x qual st f (PySem.W.fnOf x qual (defArgs st) (defBody st) (defScope st) dV kV doc pm an cdv ct) := ⟨⟨oc, od, dV, kV, doc, pm, an, cdv, ct, osl, rfl, l, c⟩, k⟩
theorem pass1 {P : Program} {w : World} {X : Cx} : Passes (CX1 P w) X E0 := fun _ _ _ _ _ _ _ h => by
  obtain ⟨_, _, _, _, _, _, _, _, _, _, _, _, _, _, _, _, z⟩ := h
  exact z.elim
end
end L2

set_option Elab.async false
set_option linter.all false
set_option maxRecDepth 100000
set_option maxHeartbeats 4000000
namespace L2
open PySem PySem.Spec PyProof.Rows PySem.W
/-! ### what an exception of an own class tells of itself -/
/-- the class at C of exceptions, as its names are looked up -/
structure ECls (K : PySem.W.Frag) (C : Addr) : Prop where
  ga : PySem.W.findIn K (.ref C) "__getattribute__" = some (some (.builtin "BaseException.__getattribute__"))
  no : PySem.W.findIn K (.ref C) "__getattr__" = some none
  mb : PySem.W.mroIn K C (.type "BaseException") = some true
  mo : PySem.W.mroIn K C (.type "object") = some true
  cl : PySem.W.findIn K (.ref C) "__class__" = some (some (.builtin "object.__class__"))
  sp : PySem.W.specialIn K (.builtin "object.__class__") "__get__" = some (some (.builtin "getset_descriptor.__get__"))
  tk : PySem.W.takesIn K (.builtin "object.__class__") = some true
  hd : PySem.W.hasDictIn K C = true
section
variable {prog : Program} {w : World} {A : Around} {E : Value → Shared → Prop} {s : Shared} {K : PySem.W.Frag} {x C : Addr} {ox : Obj} {od : Option Obj} {name : Str}
theorem exc_check {M : Model} {nameV : Value} {Q : Unit → Shared → Prop} (c : ECls K C) (X : K.In s.heap) (I : InstAt s.heap x ox C od) (hq : Q () s) : wpAny M A (checkBuiltinCall "BaseException.__getattribute__" ⟨[.ref x, nameV], []⟩) Q E s := by
  have hk : builtinKind "BaseException.__getattribute__" = some .slot := by decide +kernel
  have hsplit : splitId "BaseException.__getattribute__" = some ("BaseException", "__getattribute__") := by decide +kernel
  have ha := F.args_bexc_ga (.ref x) nameV
  have L0 := I.type (M := M)
  have L1 := looks_mroIn (M := M) X c.mb
  obtain ⟨hh, g, d, t, os⟩ := s
  simp only [checkBuiltinCall, hk, hsplit]
  have LI : Looks M hh (isInstance (.ref x) (.type "BaseException")) true := L0.andThen L1
  refine wpAny_bind (LI.at ?_)
  first | exact hq | exact wpAny_pure hq | (simp only [Bool.not_true, Bool.false_eq_true, if_false]; exact hq)
def FinP (M : Model) (A : Around) (P : Value → Shared → Prop) (fin : PySem.Fin) (s : Shared) : Prop := match fin with
  | .done (.ret v) => P v s
  | .again c => c.quiet = true ∧ codeAny M A c (fun r s' => match r with | .ok (.ret v) => P v s' | _ => False) s
  | _ => False
theorem exc_get? {Q : Option Value → Shared → Prop} (c : ECls K C) (X : K.In s.heap) (I : InstAt s.heap x ox C od)
    (h : ∀ A' : Around, wpAny (model prog w) A' (Builtin.«object.__getattribute__» ⟨[.ref x, .str name s.toks], []⟩) (FinP (model prog w) A fun v s' => wpAny (model prog w) A (handedOut v) (fun v s'' => Q (some v) s'') (fun _ _ => False) s') (fun _ _ => False) { s with toks := s.toks + 1 }) :
    wpAny (model prog w) A (getAttr? (.ref x) name) Q E s := by
  obtain ⟨hh, g, d, t, os⟩ := s
  have L0 := I.type (M := model prog w)
  have L1 := looks_findIn (M := model prog w) X c.ga
  have L2 := looks_findIn (M := model prog w) X c.no
  unfold getAttr? getAttrBy? getAttrBy
  refine wpAny_bind (wpAny_mkText (wpAny_bind (wpAny_attempt (wpAny_holding (wpAny_bind (L0.at (wpAny_bind (L1.at ?_))))))))
  show wpAny _ _ (getAttrByItsOwn _ _ _ _ _ _) _ _ _
  unfold getAttrByItsOwn
  show wpAny _ _ (do let before ← typeLookup (.ref C) "__getattr__"; _) _ _ _
  refine wpAny_bind (L2.at (wpAny_bind (wpAny_attempt (wpAny_holding ?_))))
  unfold callGetattribute
  rw [if_neg (by simp)]
  unfold boundAndCalled
  rw [F.attr_ValueError.ga.bind (.ref x)]
  refine wpAny_bind (wpAny_pure (wpAny_call (codeAny_call_builtin F.attr_ValueError.ga.plain F.entry_bexc_ga (exc_check c X I ?_))))
  have fin1 : ∀ v s', wpAny (model prog w) A (handedOut v) (fun v s'' => Q (some v) s'') (fun _ _ => False) s' → wpAny (model prog w) A (handedOut v) (fun a s' => wpAny (model prog w) A (pure (some a)) Q E s') (fun e s' => wpAny (model prog w) A (do if ← isInstance e (.type "AttributeError") then pure none else throw e) Q E s') s' := fun v s' z => wpAny_mono z (fun _ _ q => wpAny_pure q) fun _ _ q => q.elim
  refine wpAny_mono (h _) (fun fin s' z => ?_) fun _ _ z => z.elim
  cases fin with
  | done f => cases f with
    | ret v => exact fin1 v s' z
    | _ => exact z.elim
  | again c' =>
    obtain ⟨z1, z2⟩ := z
    refine ⟨z1, codeAny_mono z2 fun r s'' q => ?_⟩
    cases r with
    | error e => exact q.elim
    | ok f => cases f with
      | ret v => exact fin1 v s'' q
      | _ => exact q.elim
theorem findObj_data' {a g : Value} (hc : (clsIn K C).isSome = true) (ha : findIn K (.ref C) name = some (some a)) (hg : specialIn K a "__get__" = some (some g)) (ht : takesIn K a = some true) : findObj K C od name = some (.bind g a) := by
  obtain ⟨cd, hc⟩ := Option.isSome_iff_exists.mp hc
  unfold findObj
  rw [hc, Option.bind_some, ha, Option.bind_some]
  simp [hg, ht]
theorem ECls.some (c : ECls K C) : (clsIn K C).isSome = true := by
  obtain ⟨cd, hc, _⟩ := any_some c.hd
  rw [hc]; rfl
theorem exc_class {Q : Option Value → Shared → Prop} (c : ECls K C) (X : K.In s.heap) (I : InstAt s.heap x ox C od) (hq : Q (some (.ref C)) { s with toks := s.toks + 1 }) : wpAny (model prog w) A (getAttr? (.ref x) "__class__") Q E s := by
  have hf : findObj K C od "__class__" = some (.bind (.builtin "getset_descriptor.__get__") (.builtin "object.__class__")) := findObj_data' c.some c.cl c.sp c.tk
  refine exc_get? c X I fun A' => ?_
  have L0 := I.type (M := model prog w)
  have L1 := looks_find (M := model prog w) X I hf
  have cg : ∀ {A : Around} {R : Result → Shared → Prop}, R (.ok (.ret (.ref C))) { s with toks := s.toks + 1 } → codeAny (model prog w) A (.call (.builtin "getset_descriptor.__get__") ⟨[.builtin "object.__class__", .ref x, .ref C], []⟩) R { s with toks := s.toks + 1 } := fun h => class_get (s := { s with toks := s.toks + 1 }) (ox := ox) (od := od) X I c.mo h
  obtain ⟨hh, gg, d, t, os⟩ := s
  refine wpAny_bind (wpAny_pure (wpAny_bind (wpAny_pure (wpAny_bind (L0.at (wpAny_bind (L1.at ?_)))))))
  show wpAny _ _ (do ret (← holding [.builtin "object.__class__"] (call (.builtin "getset_descriptor.__get__") [.builtin "object.__class__", .ref x, .ref C]))) _ _ _
  exact wpAny_bind (wpAny_holding (wpAny_call (cg (wpAny_pure (show FinP _ _ _ (.done (.ret (.ref C))) _ from handed_on rfl hq)))))
/-- isinstance of an exception -/
theorem kitx_exc (c : ECls K C) : KitX K (.ref x) (.ref C) (fun h => InstAt h x ox C od) where
  ty := fun _ _ _ I => I.type
  it := fun _ _ X _ => by
    obtain ⟨cdD, hcD, _⟩ := any_some c.hd
    unfold clsIn at hcD
    split at hcD
    · rename_i c' d' cd' sl' ho
      intro A' Q' E' s' k q
      unfold isType loadHead
      exact wpAny_bind (wpAny_loadPart (k _ _ (X _ _ ho)) (wpAny_pure q))
    · cases hcD
  ne := fun h tp dd its n sl X htp => by
    obtain ⟨cdD, hcD, _⟩ := any_some c.hd
    refine Bool.eq_false_iff.mpr fun q => ?_
    have e : C = tp := Value.ref.inj (beq_iff_eq.mp q)
    subst e
    unfold clsIn at hcD
    split at hcD
    · rename_i c' d' cd' sl' ho
      have z := (X _ _ ho).symm.trans htp
      cases z
    · cases hcD
  ca := fun X I k => exc_class c X I k
end
end L2

set_option Elab.async false
set_option linter.all false
set_option maxRecDepth 100000
set_option maxHeartbeats 4000000
namespace L2
open PySem PySem.Spec PyProof.Rows
/-! ### try -/
/-- an exception that is held by a name -/
def excO (oe : Obj) : HO := .frz oe (.ext fun _ => True)
/-- an address that was made since -/
structure NewAt (X : Cx) (pins : List (Addr × Obj)) (e : Addr) : Prop where
  s0 : X.s₀.heap.get? e = none
  loc : e ≠ X.env.locals
  cel : ∀ x c, X.env.cells.lookup x = some c → c ≠ e
  fs : e ∉ X.fs
  pin : ∀ p ∈ X.pn ++ pins, p.1 ≠ e
section
variable {X : Cx}
theorem NewAt.of {pins : List (Addr × Obj)} {σ : St} {H : Hp} {s : Shared} {e : Addr} (I : Inv X pins σ H s) (hx : X.ex = []) (h : s.heap.get? e = none) : NewAt X pins e where
  s0 := by
    cases q : X.s₀.heap.get? e with
    | none => rfl
    | some o =>
      obtain ⟨o', z⟩ := I.base.there e o q (by rw [hx]; simp)
      rw [h] at z; cases z
  loc := fun z => by
    obtain ⟨m, ⟨o, _, _, q, _⟩, _⟩ := I.loc
    rw [← z, h] at q; cases q
  cel := fun x c q z => by
    obtain ⟨v, o, r, _⟩ := I.cell x c q
    rw [z, h] at r; cases r
  fs := fun z => by
    obtain ⟨_, o, q, _⟩ := I.funs.mem z
    rw [h] at q; cases q
  pin := fun p hp z => by
    have q := (I.pin p hp).1
    rw [z, h] at q; cases q
theorem Inv.track {pins : List (Addr × Obj)} {σ : St} {H : Hp} {s : Shared} {e : Addr} {oe : Obj} (I : Inv X pins σ H s) (N : NewAt X pins e) (he : s.heap.get? e = some oe) (hn : H e = none) : Inv X pins σ (upd H e (excO oe)) s := by
  have ne : ∀ {b : Addr} {o : HO}, H b = some o → b ≠ e := fun q z => by rw [z, hn] at q; cases q
  refine ⟨I.ok, I.os, I.bare, ⟨I.base.keep, I.base.slot, fun b o q n hx => ?_, I.base.there, fun b xs q => ?_, fun b o u q => ?_, fun b ps q => ?_⟩, I.loc, I.cell, ?_, fun x c q => ?_, fun p hp => ?_, fun b o q => ?_, I.len⟩
  · rw [upd_ne (fun z => by rw [z, N.s0] at q; cases q)]; exact I.base.free b o q n hx
  · have z := I.base.tups b xs q; rw [upd_ne (ne z)]; exact z
  · have z := I.base.frzs b o u q; rw [upd_ne (ne z)]; exact z
  · obtain ⟨m, z⟩ := I.base.tbls b ps q; exact ⟨m, by rw [upd_ne (ne z)]; exact z⟩
  · rw [upd_ne (Ne.symm N.loc)]; exact I.free
  · rw [upd_ne (N.cel x c q)]; exact I.freeC x c q
  · obtain ⟨a, b, c, d, f⟩ := I.pin p hp
    exact ⟨a, by rw [upd_ne (N.pin p hp)]; exact b, c, d, f⟩
  · by_cases hb : b = e
    · subst hb
      rw [upd_same] at q
      cases q
      exact ⟨he, trivial, ⟨oe, he⟩, fun _ _ _ _ => trivial⟩
    · rw [upd_ne hb] at q
      exact (I.hok b o q).stay (fun _ _ _ r => r) (fun c r => by rw [upd_ne (ne r)]; exact r) fun c xs r => by rw [upd_ne (ne r)]; exact r
/-- clauses: th cls d is the reading for an exception of that class, its dict at d -/
def PHs (X : Cx) (hs : List ExceptHandler) (th : Value → Option Addr → TS) : Prop :=
  ∀ (pins : List (Addr × Obj)) (s : Shared) (σ : St) (H : Hp) (D : Ends) (e T : Addr) (cls : Value) (d : Option Addr), Inv X pins σ H s → NewAt X pins e → H e = none → ExcAt s.heap e cls d T → th cls d D σ H → wpAny (model X.prog X.w) X.A (handleBy (.ref e) X.env hs) (SP X pins D) X.xe s
theorem flight1 {M : Model} {A : Around} {E : Value → Shared → Prop} {s : Shared} {e T : Addr} {cls : Value} {d : Option Addr} {Q : Unit → Shared → Prop} (x : ExcAt s.heap e cls d T) (hQ : ∀ h', (∀ b o, s.heap.get? b = some o → h'.get? b = some o) → Q () { s with heap := h' }) :
    wpAny M A (setFlight (.ref e) none) Q E s := by
  obtain ⟨oe, vs, oT, ts, he, rfl, rfl, hd, h1, ne, hT, hdT, h3⟩ := x
  unfold setFlight
  refine wpAny_bind (wpAny_field he hd h1 ?_)
  rw [if_pos (show (Value.ref T != Value.none) = true from by simp)]
  refine wpAny_setField hT hdT (Array.getElem?_eq_some_iff.mp h3).1 (hQ _ fun b o q => ?_)
  by_cases hb : b = T
  · subst hb
    rw [hT] at q; cases q
    have same : Obj.mapFields (·.setIfInBounds 3 ((none : Option Addr).elim Value.none fun f => rawInt f)) oT = oT := by
      obtain ⟨c, d, dat, sl⟩ := oT
      cases hdT
      have e3 : ts.setIfInBounds 3 ((none : Option Addr).elim Value.none fun f => rawInt f) = ts := by
        apply Array.ext_getElem?
        intro i
        by_cases hi : i = 3
        · subst hi
          obtain ⟨hlt, hv⟩ := Array.getElem?_eq_some_iff.mp h3
          simp [Array.getElem?_setIfInBounds, hlt, hv]
        · rw [Array.getElem?_setIfInBounds_ne (Ne.symm hi)]
      show (⟨c, d, .fields (ts.setIfInBounds 3 ((none : Option Addr).elim Value.none fun f => rawInt f)), sl⟩ : Obj) = _
      rw [e3]
    have := Heap.get?_update_self (Obj.mapFields (·.setIfInBounds 3 ((none : Option Addr).elim Value.none fun f => rawInt f))) hT (Obj.isFreed_of_fields (Obj.data_mapFields hdT _))
    rw [same] at this
    exact this
  · rw [Heap.get?_update_other _ _ (Ne.symm hb)]
    exact q
/-- except C: body -/
def tExc (K : PySem.W.Frag) (C : Value) (tb : TS) (tr : Value → Option Addr → TS) : Value → Option Addr → TS := fun cls d D σ H => ∃ b, PySem.W.exmOne K cls C = some b ∧ if b = true then tb D σ H else tr cls d D σ H
def tLost : Value → Option Addr → TS := fun _ _ _ _ _ => False
theorem phs_nil : PHs X [] tLost := fun _ _ _ _ _ _ _ _ _ _ _ _ _ h => h.elim
theorem SP.unmark {pins : List (Addr × Obj)} {D : Ends} {f : Flow} {s2 : Shared} {e : Addr} (ok : X.Ok) (q : SP (X.mark e) pins D f s2) : SP X pins D f s2 := by
  cases f with
  | next => obtain ⟨σ', H', J, q⟩ := q; exact ⟨σ', H', J.unmark ok, q⟩
  | brk => obtain ⟨σ', H', J, q⟩ := q; exact ⟨σ', H', J.unmark ok, q⟩
  | cont => obtain ⟨σ', H', J, q⟩ := q; exact ⟨σ', H', J.unmark ok, q⟩
  | ret u => obtain ⟨v, σ', H', J, r, q⟩ := q; exact ⟨v, σ', H', J.unmark ok, r, q⟩
theorem exc_ty {M : Model} {h : Heap} {e T : Addr} {cls : Value} {d : Option Addr} (ex : ExcAt h e cls d T) : PySem.W.Looks M h (typeOf (.ref e)) cls := by
  obtain ⟨oe, vs, oT, ts, he, rfl, _⟩ := ex
  exact (PySem.W.Looks.ld he).andThen .now
/-- a name goes -/
def gDel (i : Nat) : St → Hp → (St → Hp → Prop) → Prop := fun σ H Q => Q (σ.set i none) H
def kDel (i : Nat) (nx : St → Hp → Prop) : St → Hp → Prop := fun σ H => gDel i σ H nx
def Ends.del (i : Nat) (D : Ends) : Ends := ⟨kDel i D.nx, D.rt, kDel i D.bk, kDel i D.ct⟩
theorem gone_ok {M : Model} {A : Around} {E : Value → Shared → Prop} {pins : List (Addr × Obj)} {σ : St} {H : Hp} {s : Shared} {i : Nat} {x : Str} {pos : Pos} {Q : Unit → Shared → Prop} (I : Inv X pins σ H s) (hi : X.N[i]? = some x) (hk : X.env.scope.names.lookup x = some .local) (hN : X.N.Nodup)
    (h : ∀ s', Inv X pins (σ.set i none) H s' → Q () s') : wpAny M A (do bindName X.env x .none; unbindBehindTheSuite X.env x pos) Q E s := by
  obtain ⟨m, hn, hl⟩ := id I.loc
  have hcls : (X.env.scope.kind == .class || (X.env.scope.kind == .module && X.env.locals != X.env.globals)) = false := by rw [I.ok.kind]; rfl
  have cne := I.cne
  refine PySem.wpAny_nameGoes_keeps hk hn hcls fun h' v hn' hs => ?_
  obtain ⟨oL, _, _, hoL, _⟩ := id hn
  refine h _ ⟨I.ok, I.os, I.bare, ⟨fun b o e n hb hx => ?_, fun b o e n hb hx => ?_, I.base.free, fun b o e hx => ?_, I.base.tups, I.base.frzs, I.base.tbls⟩, ⟨_, hn', fun j y v' e1 e2 e3 => ?_⟩, fun y c e => ?_, I.free, I.freeC, fun p hp => ?_, fun b ob e => ?_, by simpa using I.len⟩
  · exact (hs.2 b (Nat.ne_of_lt (Nat.lt_of_lt_of_le (Heap.lt_size e) I.ok.above))).trans (I.base.keep b o e n hb hx)
  · obtain ⟨sl, e1⟩ := I.base.slot b o e n hb hx
    exact ⟨sl, (hs.2 b (Nat.ne_of_lt (Nat.lt_of_lt_of_le (Heap.lt_size e) I.ok.above))).trans e1⟩
  · obtain ⟨o', e1⟩ := I.base.there b o e hx
    exact ⟨o', (hs.2 b (Nat.ne_of_lt (Nat.lt_of_lt_of_le (Heap.lt_size e) I.ok.above))).trans e1⟩
  · have hj : j ≠ i := by
      rintro rfl
      by_cases hlt : j < σ.length
      · rw [List.getElem?_set_self hlt] at e2; cases e2
      · rw [List.getElem?_eq_none (by simpa using Nat.le_of_not_lt hlt)] at e2; cases e2
    rw [List.getElem?_set_ne (Ne.symm hj)] at e2
    obtain ⟨u', r', q⟩ := hl j y v' e1 e2 e3
    refine ⟨u', r', ?_⟩
    rcases q with ⟨k, e⟩ | ⟨k, c, e, z⟩
    · refine .inl ⟨k, ?_⟩
      have : y ≠ x := fun e => hj (nodup_ix hN e1 (e ▸ hi))
      simp [this, e]
    · exact .inr ⟨k, c, e, z.sameBut hs (cne y c e)⟩
  · obtain ⟨w', z⟩ := I.cell y c e
    exact ⟨w', z.sameBut hs (cne y c e)⟩
  · obtain ⟨e, n, ne, nf, d⟩ := I.pin p hp
    exact ⟨(hs.2 p.1 ne).trans e, n, ne, nf, d⟩
  · refine (I.hok b ob e).stay (fun c w' hc q => (hs.2 c ?_).trans q) (fun _ q => q) fun _ _ q => q
    rintro rfl
    rcases hc with rfl | hc
    · rw [I.free] at e; cases e
    · rw [I.free] at hc; cases hc
/-- except C as n: body -/
def tExcAs (K : PySem.W.Frag) (C : Value) (i : Nat) (tb : TS) (tr : Value → Option Addr → TS) : Value → Option Addr → TS := fun cls d D σ H => ∃ b, PySem.W.exmOne K cls C = some b ∧
  if b = true then ∀ (e : Addr) (oe : Obj), H e = none → oe.cls = cls → oe.dict = d → (∃ vs, oe.data = .fields vs) → tb (D.del i) (σ.set i (some (.ref e))) (upd H e (excO oe)) else tr cls d D σ H
theorem phs_as {x n : Str} {i : Nat} {np pos : Pos} {b₀ : Stmt} {body : List Stmt} {rest : List ExceptHandler} {C : Value} {tb : TS} {tr : Value → Option Addr → TS} (hN : X.N.Nodup) (hi : X.N[i]? = some n) (hk : X.env.scope.names.lookup n = some .local) (hg : Gl X x) (hm : X.mg x = some C ∨ (X.mg x = none ∧ bootBuiltins x = some C ∧ x ≠ "__name__")) (hb : ∀ e, PSs (X.mark e) (b₀ :: body) tb) (hr : PHs X rest tr)
    (hdb : (x == ("__debug__" : Str)) = false := by decide) : PHs X (.ExceptHandler (some (.Name x np)) (some n) (b₀ :: body) pos :: rest) (tExcAs X.K C i tb tr) := by
  intro pins s σ H D e T cls d I N hn ex h
  obtain ⟨b, hx, h⟩ := h
  have Im := I.mark e
  have ld : ∀ {Q : Value → Shared → Prop} {E : Value → Shared → Prop}, Q C s → wpAny (model X.prog X.w) (X.A.mark (some (.ref e))) (eval (.Name x np) X.env) Q E s := fun {Q E} q => by
    rcases hm with z | ⟨z1, z2, z3⟩
    · exact ld_glob (X := X.mark e) Im hg z q hdb
    · exact ld_blt (X := X.mark e) Im hg z1 z2 q z3 hdb
  refine PySem.wpAny_handleBy_cons (PySem.codeAny_handlers_test (ld ((PySem.W.exm_one I.kIn (exc_ty ex) hx).here ?_))) (by intro q; cases q)
  cases b with
  | false =>
    rw [if_neg Bool.false_ne_true] at h
    exact hr pins s σ H D e T cls d I N hn ex h
  | true =>
    rw [if_pos rfl] at h
    refine PySem.codeAny_handlers_suite_as (flight1 ex fun h' kp => ?_)
    obtain ⟨oe, vs, oT, ts, he, hc, hd, hdat, _⟩ := ex
    have N' : NewAt (X.mark e) pins e := ⟨N.s0, N.loc, N.cel, N.fs, N.pin⟩
    have I' : Inv (X.mark e) pins σ (upd H e (excO oe)) { s with heap := h' } := (Im.kept (t' := s.toks) kp).track N' (kp _ _ he) hn
    refine store_ok (X := X.mark e) I' hN hi (.inl hk) (show RelV (.ref e) (.ref e) from rfl) (fun s1 I1 => ?_) (.inr hk)
    refine wpAny_mono (hb e pins s1 _ _ (D.del i) I1 (h e oe hn hc hd ⟨vs, hdat⟩)) (fun f s2 q => ?_) fun _ _ z => z.elim
    show wpAny _ X.A _ _ _ s2
    have q' := SP.unmark I.ok q
    cases f with
    | next => obtain ⟨σ', H', J, q⟩ := q'; exact gone_ok J hi hk hN fun s3 J3 => ⟨_, H', J3, q⟩
    | brk => obtain ⟨σ', H', J, q⟩ := q'; exact gone_ok J hi hk hN fun s3 J3 => ⟨_, H', J3, q⟩
    | cont => obtain ⟨σ', H', J, q⟩ := q'; exact gone_ok J hi hk hN fun s3 J3 => ⟨_, H', J3, q⟩
    | ret u => obtain ⟨v, σ', H', J, r, q⟩ := q'; exact gone_ok J hi hk hN fun s3 J3 => ⟨v, _, H', J3, r, q⟩
/-- try: body except ..: the body's reading is given what an exception meets -/
def tTry (tb : (St → XK) → TS) (th : Value → Option Addr → TS) : TS := fun D σ H => tb (fun σ' cls d H' => th cls d D σ' H') D σ H
abbrev Cx.tried (X : Cx) (E : Value → Shared → Prop) (pn : List (Addr × Obj)) : Cx := { X with xe := E, pn := pn }
theorem ps_try {body : List Stmt} {h₀ : ExceptHandler} {hs : List ExceptHandler} {pos : Pos} {tb : (St → XK) → TS} {th : Value → Option Addr → TS} (hstk : X.stack = X.env :: X.outer ∧ X.env.frame = some X.env.locals ∧ X.ex = [])
    (hb : ∀ (EX : St → XK) (E : Value → Shared → Prop) (pn : List (Addr × Obj)), (∀ σ, PassAt (CX1 X.prog X.w) (X.tried E pn) (EX σ) σ) → PSs (X.tried E pn) body (tb EX)) (hh : PHs X (h₀ :: hs) th) :
    PS X (.Try body (h₀ :: hs) [] [] pos) (tTry tb th) := by
  intro pins s σ H D I h
  refine PySem.wpAny_Try_except ?_
  have okT : ∀ E pn, (X.tried E pn).Ok := fun E pn => ⟨I.ok.mod, I.ok.kind, I.ok.glob, I.ok.blt, I.ok.above, I.ok.inj, I.ok.has, I.ok.cab, I.ok.hd, I.ok.frames, I.ok.stk, I.ok.exf, I.ok.bs, I.ok.bsz, I.ok.noex, I.ok.exfs, I.ok.funs, I.ok.frf⟩
  have back : ∀ {E : Value → Shared → Prop} {pins' : List (Addr × Obj)} {σ' : St} {H' : Hp} {s' : Shared}, Inv (X.tried E (X.pn ++ pins)) pins' σ' H' s' → Inv X pins σ' H' s' := fun {E pins' σ' H' s'} J =>
    ⟨I.ok, J.os, J.bare, J.base, J.loc, J.cell, J.free, J.freeC, fun p hp => J.pin p (List.mem_append_left _ hp), J.hok, J.len⟩
  have I0 : ∀ E, Inv (X.tried E (X.pn ++ pins)) [] σ H s := fun E => ⟨okT E _, I.os, I.bare, I.base, I.loc, I.cell, I.free, I.freeC, fun p hp => I.pin p (by simpa using hp), I.hok, I.len⟩
  refine thn (hb (fun σ' cls d H' => th cls d D σ' H') _ (X.pn ++ pins) ?_ [] s σ H D (I0 _) h) fun f s1 q => ?_
  · intro σ1 pins1 H1 s1 ev s2 I1 hc
    obtain ⟨e, T, cls, dd, H', rfl, os, bare, un1, hok, ne, nT, He, HT, ex, hxd, hE⟩ := hc
    have I2 := I1.call' (ch := []) os un1 hok bare (fun b z => absurd z (by simp))
    have nf : ∀ b, s1.heap.get? b = none → b ∉ frs (X.env :: X.outer) := fun b hb z => by
      have st := I1.stack
      have st' : s1.heap.FunFrames X.base (X.env :: X.outer) := by rw [← hstk.1]; exact st
      obtain ⟨_, o, q, _⟩ := st'.mem z
      rw [hb] at q; cases q
    have nb : X.base.get? T = none := by
      cases q : X.base.get? T with
      | none => rfl
      | some o =>
        have := I1.bk T o q
        rw [nT] at this; cases this
    have fl : s2.heap.FunFrames X.base (X.env :: X.outer) := by rw [← hstk.1]; exact I2.stack
    have fr : X.A.frames = some (X.env :: X.outer) := by rw [← hstk.1]; exact I.ok.frames
    refine note_next (base := X.base) (outer := X.outer) fr fl hstk.2.1 ex (nf e ne) (nf T nT) nb fun g T' ng nT' ex' => ?_
    have fs : ∀ b ∈ frs (X.env :: X.outer), b ∈ frs X.stack := fun b hb => by rw [hstk.1]; exact hb
    have I3 := I1.call' (s' := { s2 with heap := g }) (ch := []) os (un1.noted ng ne (fun b z => by rw [z]; exact nT) fun b hb => .inl (fs b hb)) (hok.noted ng He (fun b z => by rw [z]; exact HT) fun b hb => I2.stkFree b (fs b hb)) bare (fun b z => absurd z (by simp))
    exact hh pins _ σ1 H' D e T' cls dd (back I3) (NewAt.of (back I1) hstk.2.2 ne) He ex' hE
  · cases f with
    | next => obtain ⟨σ', H', J, q⟩ := q; exact wpAny_execs_nil ⟨σ', H', back J, q⟩
    | brk => obtain ⟨σ', H', J, q⟩ := q; exact ⟨σ', H', back J, q⟩
    | cont => obtain ⟨σ', H', J, q⟩ := q; exact ⟨σ', H', back J, q⟩
    | ret u => obtain ⟨v, σ', H', J, r, q⟩ := q; exact ⟨v, σ', H', back J, r, q⟩
/-! ### isinstance of an exception that a name holds -/
/-- its dict, if it has one, is a known one -/
def kXd : HO → Prop := fun o => match o with
  | .xd _ => True
  | _ => False
def dictO (H : Hp) : Option Addr → Prop
  | none => True
  | some dx => ∃ o, H dx = some o ∧ kXd o
theorem call_isiE : CallR X (.builtin "isinstance") (fun xs H Q => ∃ e oe C D b, xs = [.ref e, D] ∧ (∃ u, H e = some (.frz oe u)) ∧ oe.cls = .ref C ∧ dictO H oe.dict ∧ (∃ vs, oe.data = .fields vs) ∧ ECls X.K C ∧ (∃ u, RelV D u ∧ PySem.W.kitOne X.K (.ref C) u = some b) ∧ Q (.bl b) H) := by
  intro pins s σ H xs us Q I r h
  obtain ⟨e, oe, C, D, b, rfl, ⟨uu, hH⟩, hc, hd, ⟨vs, hv⟩, ec, ⟨u, ru, hk⟩, q⟩ := h
  obtain ⟨u1, u2, rfl, r1, r2⟩ := vals2 r
  cases (show u1 = Value.ref e from r1)
  have hu : u2 = u := by
    cases D with
    | ref a => exact (show u2 = Value.ref a from r2).trans (show u = Value.ref a from ru).symm
    | ty n => exact (show u2 = Value.type n from r2).trans (show u = Value.type n from ru).symm
    | non => exact (show u2 = Value.none from r2).trans (show u = Value.none from ru).symm
    | bl b' => exact (show u2 = Value.bool b' from r2).trans (show u = Value.bool b' from ru).symm
    | int i => obtain ⟨t, rfl⟩ := ru; simp [PySem.W.kitOne, PySem.W.kitCls] at hk
    | str i => obtain ⟨t, rfl⟩ := ru; simp [PySem.W.kitOne, PySem.W.kitCls] at hk
    | byt i => obtain ⟨t, rfl⟩ := ru; simp [PySem.W.kitOne, PySem.W.kitCls] at hk
    | flt i => obtain ⟨t, rfl⟩ := ru; simp [PySem.W.kitOne, PySem.W.kitCls] at hk
  subst hu
  obtain ⟨he, _⟩ := (show ObjOk X.prog X.w H s.heap e (.frz oe uu) from I.hok e _ hH)
  have hno : PySem.W.notCls oe = true := by unfold PySem.W.notCls; rw [hv]
  cases q0 : oe.dict with
  | none =>
    have J : PySem.W.InstAt s.heap e oe C none := ⟨he, hc, hno, by rw [q0]; trivial⟩
    exact PySem.W.kia_one (kitx_exc ec) I.kIn J hk (fun z => nomatch z) fun tk => ⟨.bl b, H, I.tok _, rfl, q⟩
  | some dx =>
    rw [q0] at hd
    obtain ⟨o, ho, hx⟩ := hd
    cases o with
    | xd fs =>
      obtain ⟨mA, hn, _⟩ := I.hok dx _ ho
      obtain ⟨oD, hoD, _⟩ := lookIn_ns hn
      have J : PySem.W.InstAt s.heap e oe C (some oD) := ⟨he, hc, hno, by rw [q0]; exact hoD⟩
      exact PySem.W.kia_one (kitx_exc ec) I.kIn J hk (fun z => nomatch z) fun tk => ⟨.bl b, H, I.tok _, rfl, q⟩
    | _ => exact hx.elim
end
end L2

set_option Elab.async false
set_option linter.all false
set_option maxRecDepth 100000
set_option maxHeartbeats 4000000
namespace L2
open PySem PySem.Spec PyProof.Rows PySem.W
/-! ### own exception classes with an __init__ of their own -/
def excInI (K : Frag) (C fI : Addr) (bmB : List Value) (newId : String) : Bool := match K.lookup C with
  | some ⟨.type "type", _, .cls dat, slt⟩ => (match dat.mro, slt.toList with
    | .ref C' :: up, [_, _, _, _, some (.builtin n), _] => C' == C && n == newId && !dat.hasDel && tailIn K bmB up && nsOkIn K dat.ns && nsIn K dat.ns "__init__" == some (some (.ref fI))
    | _, _ => false)
  | _ => false
section
variable {prog : Program} {w : World} {A : Around} {R : Result → Shared → Prop} {h : Heap} {g : Array GenState} {d : Drawn} {t : Nat} {os : OsState} {K : Frag}
variable {nm q : Str} {C N fI : Addr} {bs bm bmB : List Value} {hdct : Bool} {sn : List Str} {sub : List Value} {ab : Bool} {col : Option Bool} {dd : Option Addr} {k0 k1 k2 k3 k5 : Option Value} {B Bn newId nid initId inN : String} {bmN : List Value}
/-- the exception as __new__ leaves it: its arguments' tuple, then itself -/
abbrev exNew (C : Addr) (rest : List Value) (h : Heap) : Heap := (h.push { cls := .type "tuple", data := .seq rest.toArray }).push { cls := .ref C, data := .fields #[.ref h.objs.size, .none, .none, .none, .bool false, .none] }
theorem exc_own (Fn : ExcBaseFacts Bn newId inN bmN) (hBn : bmB.contains (.type Bn) = true) (F : ExcBaseFacts B nid initId bmB) (T : OwnTail h bmB bm) {mN : Str → Option Value} {rest : List Value}
    (hC : h.get? C = some (excClassObj nm q C N bs bm hdct sn sub ab col dd k0 k1 k2 k3 k5 newId)) (hn : h.Ns N mN) (hni : mN "__init__" = some (.ref fI)) (X : K.In h) (hf : typeIn K (.ref fI) = some (.type "function")) (hrest : rest.length ≤ sizeLine)
    (hq : codeAny (model prog w) (A.under (.builtin "type.__call__" ⟨.ref C :: rest, []⟩)) (.call (.ref fI) ⟨.ref (h.objs.size + 1) :: rest, []⟩) (InitBack (h.objs.size + 1) R) ⟨exNew C rest h, g, d, t, os⟩) :
    codeAny (model prog w) A (.call (.ref C) ⟨rest, []⟩) R ⟨h, g, d, t, os⟩ := by
  have f1 := tc_lookup
  have f2 := tc_bind (.ref C)
  have hT : (⟨h, g, d, t, os⟩ : Shared).TypeIs (.ref C) "type" := ⟨_, hC, rfl⟩
  refine codeAny_of_tree ?_
  show wpAny _ _ (callAny (.ref C) _) _ _ _
  repeat (any_goals (first | assumption | with_reducible refine wpAny_loadPart_at hC ?_ | wp_step))
  refine ⟨rfl, ?_⟩
  refine codeAny_call_builtin_at (Code.quiet_builtin _ (by decide +kernel)) entry_typeCall (wpAny_check_type_call_sub hC ?_)
  repeat (first | with_reducible refine wpAny_loadPart_at hC ?_ | with_reducible refine wpAny_madeBy_exc hC ?_ | wp_step)
  refine codeAny_call_builtin_code (Code.quiet_builtin _ Fn.quiet) (wpAny_check_new_subU Fn hBn T hC (codeAny_exc_new_subU Fn hBn F T hC ?_ hrest))
  show wpAny _ _ _ _ _ _
  have kp : ∀ b o, h.get? b = some o → (exNew C rest h).get? b = some o := fun b o e => Heap.get?_push_of_some _ (Heap.get?_push_of_some _ e)
  have hC1 := kp _ _ hC
  have hn1 : (exNew C rest h).Ns N mN := let ⟨o, es, ep, e, r⟩ := hn; ⟨o, es, ep, kp _ _ e, r⟩
  have hg : (exNew C rest h).get? (h.objs.size + 1) = some { cls := .ref C, data := .fields #[.ref h.objs.size, .none, .none, .none, .bool false, .none] } := by unfold exNew; heap_get
  have hcC : (Value.ref C :: bm).contains (.ref C) = true := by simp
  have T1 := T.keeps (h' := exNew C rest h) kp
  have X1 : K.In (exNew C rest h) := fun b o e => kp b o (X b o e)
  unfold isInstance
  repeat (first | with_reducible refine wpAny_loadPart_at hg ?_ | wp_step)
  show wpAny _ _ (isSubtype (.ref C) (.ref C)) _ _ ⟨exNew C rest h, g, d, t, os⟩
  refine wpAny_isSubtype_exc hC1 ?_
  rw [hcC]
  repeat (first | with_reducible refine wpAny_loadPart_at hg ?_ | wp_step)
  show wpAny _ _ (typeLookup (.ref C) _) _ _ _
  refine wpAny_typeLookup_tail hC1 hn1 T1 F.mroIs F.init.lookup ?_
  rw [hni]
  refine wpAny_holding (wpAny_bind ((bind_fn X1 _ hf).at ?_))
  refine wpAny_bind (wpAny_call (codeAny_mono hq fun r s' z => ?_))
  cases r with
  | error e => exact z
  | ok f =>
    cases f with
    | ret v => obtain ⟨rfl, y⟩ := z; exact wpAny_pure (wpAny_pure y)
    | next => exact z.elim
    | brk => exact z.elim
    | cont => exact z.elim
end
/-! ### what is stored in it -/
def dropRefs : List Value → List Value
  | .ref _ :: r => dropRefs r
  | l => l
theorem refuse_drop (self : Value) : ∀ l : List Value, refuseLoop self "__setattr__" l = refuseLoop self "__setattr__" (dropRefs l)
  | [] => rfl
  | v :: r => by
    cases v with
    | ref c => rw [refuseLoop_ref]; exact refuse_drop self r
    | _ => rfl
def onlyExc (l : List Value) : Bool := dropRefs l == [.type "ValueError", .type "Exception", .type "BaseException", .type "object"]
theorem refuse_exc (self : Value) {l : List Value} (e : onlyExc l = true) : refuseLoop self "__setattr__" l = pure () := by
  rw [refuse_drop, beq_iff_eq.mp e]; exact PySem.F.store_ValueError.passes self
def excOver (K : Frag) (C : Addr) : Bool := (clsIn K C).any fun cd => onlyExc cd.mro && cd.mro.contains (.type "object")
/-- the class at C of exceptions, as what is stored in one of them is looked up -/
structure EStore (K : Frag) (C : Addr) : Prop where
  ov : excOver K C = true
  sa : findIn K (.ref C) "__setattr__" = some (some (.builtin "object.__setattr__"))
  hd : hasDictIn K C = true
section
variable {prog : Program} {w : World} {A : Around} {E : Value → Shared → Prop} {K : Frag} {x C : Addr} {s : Shared} {name : Str} {v : Value}
theorem osx_open {ox : Obj} {od : Option Obj} {tk : Tok} {R : Result → Shared → Prop} (X : K.In s.heap) (I : InstAt s.heap x ox C od) (hp : excOver K C = true) (ht : takerIn K C name = some none)
    (h : ∀ b, wpAny (model prog w) A.in1 (Builtin.ObjectAttr.storeInOwnDict (.ref x) (.ref C) (.str name tk) name v b) (fun fin s' => match fin with | .done f => R (.ok f) s' | .again c' => c'.quiet = true ∧ codeAny (model prog w) A c' R s') (fun e s' => R (.error e) s') s) :
    codeAny (model prog w) A (.call (.builtin "object.__setattr__") ⟨[.ref x, .str name tk, v], []⟩) R s := by
  have sf := PySem.F.store_object
  obtain ⟨dat, hcl, hov⟩ := any_some hp
  rw [Bool.and_eq_true] at hov
  have emp : dat.mro.isEmpty = false := by cases q : dat.mro with | nil => rw [q] at hov; cases hov.2 | cons _ _ => rfl
  have isObj : Looks (model prog w) s.heap (isInstance (.ref x) (.type "object")) true := I.type.andThen (looks_mroIn X (by unfold mroIn; rw [hcl, Option.bind_some, if_neg (by rw [emp]; decide), hov.2]))
  refine codeAny_call_builtin sf.slot.plain sf.entry (@check_slot (model prog w) _ _ s "object.__setattr__" "object" "__setattr__" (.ref x) [.str name tk, v] [] _ sf.kind sf.split isObj (sf.args (.ref x) (.str name tk) v) ?_)
  obtain ⟨on, hon, hr⟩ := Option.bind_eq_some_iff.mp ht
  have lm : Looks (model prog w) s.heap (mroOf (.ref C)) dat.mro := (looks_clsIn X hcl).andThen .now
  have lt : Looks (model prog w) s.heap (Builtin.ObjectAttr.storeTaker? on) none := by
    cases on with
    | none => exact .now
    | some a =>
      obtain ⟨b, hb, hz⟩ := Option.map_eq_some_iff.mp hr
      refine (looks_takesIn X hb).andThen ?_
      cases b
      · exact .now
      · cases hz
  rw [osa_eq, refuse_eq]
  refine wpAny_bind (wpAny_bind (I.type.here (wpAny_bind (lm.here (by rw [refuse_exc _ hov.1]; refine wpAny_pure (wpAny_bind (I.type.here (wpAny_bind ((looks_findIn X hon).here (wpAny_bind (lt.here (h _))))))))))))
/-- the first thing that is stored makes its dict -/
theorem set_exc {vs : Array Value} {sl : Array (Option Value)} {Q : Unit → Shared → Prop} (c : EStore K C) (X : K.In s.heap) (hx : s.heap.get? x = some ⟨.ref C, none, .fields vs, sl⟩) (ht : takerIn K C name = some none)
    (h : ∀ h' tk, h'.get? x = some ⟨.ref C, some s.heap.objs.size, .fields vs, sl⟩ → h'.Ns1 s.heap.objs.size (fun y => if y = name then some v else none) → (∀ b o, b ≠ x → s.heap.get? b = some o → h'.get? b = some o) → Q () { s with heap := h', toks := tk }) :
    wpAny (model prog w) A (setAttr (.ref x) name v) Q E s := by
  have I : InstAt s.heap x ⟨.ref C, none, .fields vs, sl⟩ C none := ⟨hx, rfl, rfl, trivial⟩
  refine set_plain X I c.sa (osx_open (s := { s with toks := s.toks + 1 }) X I c.ov ht fun b => ?_)
  obtain ⟨cd, hc, hd'⟩ := any_some c.hd
  have hxs : x ≠ s.heap.objs.size := Nat.ne_of_lt (Heap.lt_size hx)
  have hx1 : (s.heap.push { cls := .type "dict", data := .dict #[] }).get? x = some ⟨.ref C, none, .fields vs, sl⟩ := Heap.get?_push_of_some _ hx
  refine wpAny_bind (wpAny_pure (wpAny_bind (wpAny_bind (wpAny_loadPart hx ?_))))
  show wpAny _ _ (do if !(← classData C).hasDict then pure none else _) _ _ _
  refine wpAny_bind (Looks.here (s := { s with toks := s.toks + 1 }) (looks_clsIn X hc) ?_)
  rw [hd', if_neg (by decide)]
  show wpAny _ _ (do let d ← alloc { cls := .type "dict", data := .dict #[] }; update x fun o => { o with dict := some d }; dictMade (.ref C) x d) _ _ _
  refine wpAny_bind (wpAny_alloc (wpAny_bind (wpAny_update hx1 (wpAny_pure (a := some s.heap.objs.size) ?_))))
  generalize hg : (s.heap.push { cls := .type "dict", data := .dict #[] }).update x (fun o => { o with dict := some s.heap.objs.size }) = g0
  have gx : g0.get? x = some ⟨.ref C, some s.heap.objs.size, .fields vs, sl⟩ := by rw [← hg]; exact Heap.get?_update_self _ hx1 rfl
  have gd : g0.get? s.heap.objs.size = some { cls := .type "dict", data := .dict #[] } := by rw [← hg]; exact (Heap.get?_update_ne _ _ _ _ hxs.symm).trans (Heap.get?_push_at rfl rfl)
  have gk : ∀ b o, b ≠ x → s.heap.get? b = some o → g0.get? b = some o := fun b o hb e => by rw [← hg]; exact (Heap.get?_update_ne _ _ _ _ hb).trans (Heap.get?_push_of_some _ e)
  have gn : g0.Ns s.heap.objs.size (fun _ => none) := ⟨_, #[], _, gd, rfl, fun e he => absurd he (by simp), fun _ => rfl⟩
  show wpAny _ _ (Builtin.ObjectAttr.storeInDict s.heap.objs.size (.str name s.toks) name v) _ _ _
  unfold Builtin.ObjectAttr.storeInDict Builtin.ObjectAttr.newKeyGuard
  refine wpAny_bind (wpAny_pure (wpAny_bind (wpAny_nsSet1 (Heap.Ns1.of_empty gn) fun h2 n2 s2 => ?_)))
  obtain ⟨oD, eD, pD, q1, q2, q3⟩ := n2.count (Within.cons name v Within.nil)
  refine wpAny_bind (wpAny_lookBehind q1 (by rw [q2]; exact pastItsLine_dict (Nat.le_trans q3 (by rw [List.length_cons, List.length_nil, sizeLine_eq]; omega))) ?_)
  exact wpAny_pure (h h2 _ ((s2.2 x hxs).trans gx) n2 fun b o hb e => (s2.2 b (Nat.ne_of_lt (Heap.lt_size e))).trans (gk b o hb e))
end
end L2

set_option Elab.async false
set_option linter.all false
set_option maxRecDepth 100000
set_option maxHeartbeats 4000000
namespace L2
open PySem PySem.Spec PyProof.Rows PySem.W
/-! ### what an exception of an own class holds, read -/
section
variable {prog : Program} {w : World} {A : Around} {E : Value → Shared → Prop} {s : Shared} {K : PySem.W.Frag} {x C dx : Addr} {ox : Obj} {od : Option Obj} {name : Str} {mA : Str → Option Value} {u : Value}
theorem exc_get {expr : Bool} {Q : Value → Shared → Prop} (c : ECls K C) (X : K.In s.heap) (hx : s.heap.get? x = some ox) (hcl : ox.cls = .ref C) (hno : notCls ox = true) (hd : ox.dict = some dx) (hn : s.heap.Ns1 dx mA) (ha : NoAttr K C name) (hv : mA name = some u) (hh : handedIn u = true)
    (h : Q u { s with toks := s.toks + 1 }) : wpAny (model prog w) A (getAttr (.ref x) name expr) Q E s := by
  obtain ⟨oD, ho, hl⟩ := lookIn_ns hn
  have I : InstAt s.heap x ox C (some oD) := ⟨hx, hcl, hno, by rw [hd]; exact ho⟩
  have hf : findObj K C (some oD) name = some (.value u) := findObj_own c.hd ha rfl (by rw [hl, hv])
  have L0 := I.type (M := model prog w)
  have L1 := looks_findIn (M := model prog w) X c.ga
  have L2 := looks_findIn (M := model prog w) X c.no
  have L3 := looks_find (M := model prog w) X I hf
  have ck := fun {M : Model} {A : Around} {E : Value → Shared → Prop} {Q : Unit → Shared → Prop} (q : Q () { s with toks := s.toks + 1 }) => exc_check (M := M) (A := A) (E := E) (nameV := .str name s.toks) (s := { s with toks := s.toks + 1 }) c X I q
  obtain ⟨hp, g, d, t, os⟩ := s
  unfold getAttr getAttrBy
  refine wpAny_bind (wpAny_mkText (wpAny_holding (wpAny_bind (L0.at (wpAny_bind (L1.at ?_))))))
  show wpAny _ _ (getAttrByItsOwn _ _ _ _ _ _) _ _ _
  unfold getAttrByItsOwn
  show wpAny _ _ (do let before ← typeLookup (.ref C) "__getattr__"; _) _ _ _
  refine wpAny_bind (L2.at (wpAny_bind (wpAny_attempt (wpAny_holding ?_))))
  unfold callGetattribute
  rw [show (expr && onTheHeap (Value.builtin "BaseException.__getattribute__")) = false from Bool.and_false _, if_neg (by decide)]
  unfold boundAndCalled
  rw [F.attr_ValueError.ga.bind (.ref x)]
  refine wpAny_bind (wpAny_pure (wpAny_call (codeAny_call_builtin F.attr_ValueError.ga.plain F.entry_bexc_ga (ck ?_))))
  refine wpAny_bind (wpAny_pure (wpAny_bind (wpAny_pure (wpAny_bind (L0.at (wpAny_bind (L3.at (wpAny_pure ?_))))))))
  show wpAny _ _ (handedOut u) _ _ _
  rw [handedOut_of hh]
  exact wpAny_pure h
end
/-! ### the base's __init__ lays the arguments anew -/
section
variable {prog : Program} {w : World} {A : Around} {E : Value → Shared → Prop} {h : Heap} {g : Array GenState} {d : Drawn} {t : Nat} {os : OsState} {e a0 : Addr} {dct : Option Addr}
variable {nm q : Str} {C N : Addr} {bs bm bmB : List Value} {hdct : Bool} {sn : List Str} {sub : List Value} {ab : Bool} {col : Option Bool} {dd : Option Addr} {k0 k1 k2 k3 k5 : Option Value} {B newId nid initId : String}
theorem init_base (F : ExcBaseFacts B nid initId bmB) (T : OwnTail h bmB bm) {rest : List Value} {Q : Value → Shared → Prop} (hC : h.get? C = some (excClassObj nm q C N bs bm hdct sn sub ab col dd k0 k1 k2 k3 k5 newId))
    (he : h.get? e = some ⟨.ref C, dct, .fields #[.ref a0, .none, .none, .none, .bool false, .none], #[]⟩) (hrest : rest.length ≤ sizeLine)
    (hq : ∀ h' a1, h'.get? e = some ⟨.ref C, dct, .fields #[.ref a1, .none, .none, .none, .bool false, .none], #[]⟩ → (∀ b o, b ≠ e → h.get? b = some o → h'.get? b = some o) → Q .none ⟨h', g, d, t, os⟩) :
    wpAny (model prog w) A (call (.builtin initId) (.ref e :: rest)) Q E ⟨h, g, d, t, os⟩ := by
  refine wpAny_call (codeAny_call_builtin F.init.plain F.initEntry (wpAny_check_init_subU F T hC he rfl ?_))
  wp_walk
  refine hq _ h.objs.size ?_ fun b o hb z => ?_
  · rw [Heap.get?_update_self _ (Heap.get?_push_of_some _ he) rfl]; rfl
  · rw [Heap.get?_update_other _ _ (Ne.symm hb)]; exact Heap.get?_push_of_some _ z
end
theorem ns_at {K : Frag} {h : Heap} {N : Addr} {mg : Str → Option Value} {n : Str} {v : Value} (X : K.In h) (G : h.Ns N mg) (e : nsIn K N n = some (some v)) : mg n = some v := by
  obtain ⟨ob, ents, prev, hob, hdat, _, hfind⟩ := G
  unfold nsIn at e
  split at e
  · rename_i c0 d0 es0 n0 sl0 look
    have z := X _ _ look
    rw [hob] at z
    cases z
    cases hdat
    split at e
    · rename_i ent hent
      cases e
      rw [← hfind]
      unfold nsFind findBy
      rw [← Array.find?_toList, hent]; rfl
    · split at e <;> cases e
  · cases e
/-- an own exception class, right or further under ValueError, with an __init__ of its own -/
structure OwnI (K : PySem.W.Frag) (C fI : Addr) : Prop where
  ex : excInI K C fI [.type "ValueError", .type "Exception", .type "BaseException", .type "object"] "ValueError.__new__" = true
  fn : typeIn K (.ref fI) = some (.type "function")
  st : EStore K C
theorem OwnI.op {K : PySem.W.Frag} {C fI : Addr} {h : Heap} (O : OwnI K C fI) (X : K.In h) : ∃ nm q N bs bm hdct sn sub ab col dd k0 k1 k2 k3 k5, h.get? C = some (excClassObj nm q C N bs bm hdct sn sub ab col dd k0 k1 k2 k3 k5 "ValueError.__new__") ∧
    OwnTail h [.type "ValueError", .type "Exception", .type "BaseException", .type "object"] bm ∧ h.Ns N (h.nsMap N) ∧ h.nsMap N "__init__" = some (.ref fI) := by
  have q0 := O.ex
  unfold excInI at q0
  split at q0
  · rename_i dd0 cdat slots0 look0
    split at q0
    · rename_i Cx0 tl0 g0 g1 g2 g3 nw g5 em es0
      simp only [Bool.and_eq_true, beq_iff_eq, Bool.not_eq_true'] at q0 <;> skip
      obtain ⟨⟨⟨⟨⟨rfl, rfl⟩, ndel⟩, tok⟩, nok⟩, noi⟩ := q0
      obtain ⟨c1, c2, c3, c4, c5, c6, c7, c8, c9, c10, c11⟩ := cdat
      dsimp only at em ndel nok noi
      subst em ndel
      obtain ⟨lst0⟩ := slots0
      have es1 : lst0 = [g0, g1, g2, g3, some (.builtin "ValueError.__new__"), g5] := es0
      subst es1
      have nsb : h.Ns c4 (h.nsMap c4) := .of_isNs (PySem.W.isNs_of_in X nok)
      exact ⟨c1, c5, c4, c2, tl0, c6, c7, c8, c9, c10, dd0, g0, g1, g2, g3, g5, X _ _ look0, PySem.W.tail_of_in X tok, nsb, ns_at X nsb noi⟩
    · cases q0
  · cases q0
/-! ### an exception that is made, and not raised yet -/
def exO (e C : Addr) (d : Option Addr) : Heap → Prop := fun h => ∃ t, h.get? e = some ⟨.ref C, d, .fields #[.ref t, .none, .none, .none, .bool false, .none], #[]⟩
def exH (e C : Addr) (d : Option Addr) : HO := .ext (exO e C d)
theorem exH_ok {P : Program} {w : World} {H : Hp} {h : Heap} {e C : Addr} {d : Option Addr} (q : exO e C d h) : ObjOk P w H h e (exH e C d) := by
  obtain ⟨t, he⟩ := id q
  exact ⟨q, ⟨_, he⟩, fun h1 h2 ⟨t, a⟩ b => ⟨t, b _ a⟩⟩
theorem exH_get {P : Program} {w : World} {H : Hp} {h : Heap} {e C : Addr} {d : Option Addr} (q : ObjOk P w H h e (exH e C d)) : exO e C d h := q.1
section
variable {X : Cx} {pins : List (Addr × Obj)} {σ : St} {H : Hp} {s : Shared}
theorem Inv.adopt {a : Addr} {o : HO} (I : Inv X pins σ H s) (N : NewAt X pins a) (hn : H a = none) (new : ObjOk X.prog X.w (upd H a o) s.heap a o) : Inv X pins σ (upd H a o) s := by
  have ne : ∀ {b : Addr} {u : HO}, H b = some u → b ≠ a := fun q z => by rw [z, hn] at q; cases q
  refine ⟨I.ok, I.os, I.bare, ⟨I.base.keep, I.base.slot, fun b u q n hx => ?_, I.base.there, fun b xs q => ?_, fun b u v q => ?_, fun b ps q => ?_⟩, I.loc, I.cell, ?_, fun x c q => ?_, fun p hp => ?_, fun b u q => ?_, I.len⟩
  · rw [upd_ne (fun z => by rw [z, N.s0] at q; cases q)]; exact I.base.free b u q n hx
  · have z := I.base.tups b xs q; rw [upd_ne (ne z)]; exact z
  · have z := I.base.frzs b u v q; rw [upd_ne (ne z)]; exact z
  · obtain ⟨m, z⟩ := I.base.tbls b ps q; exact ⟨m, by rw [upd_ne (ne z)]; exact z⟩
  · rw [upd_ne (Ne.symm N.loc)]; exact I.free
  · rw [upd_ne (N.cel x c q)]; exact I.freeC x c q
  · obtain ⟨a1, b1, c1, d1, f1⟩ := I.pin p hp
    exact ⟨a1, by rw [upd_ne (N.pin p hp)]; exact b1, c1, d1, f1⟩
  · by_cases hb : b = a
    · subst hb; rw [upd_same] at q; cases q; exact new
    · rw [upd_ne hb] at q
      exact (I.hok b u q).stay (fun _ _ _ r => r) (fun c r => by rw [upd_ne (ne r)]; exact r) fun c xs r => by rw [upd_ne (ne r)]; exact r
theorem Inv.newAt {a : Addr} (I : Inv X pins σ H s) (ha : s.heap.objs.size ≤ a) : NewAt X pins a where
  s0 := Heap.get?_none_of_le (Nat.le_trans I.sz ha)
  loc := Nat.ne_of_gt (Nat.lt_of_lt_of_le I.lt ha)
  cel := fun x c e z => by
    obtain ⟨v, o, q, _⟩ := I.cell x c e
    exact absurd (Nat.lt_of_lt_of_le (Heap.lt_size q) (by rw [z]; exact ha)) (Nat.lt_irrefl _)
  fs := I.nofs ha
  pin := fun p hp z => absurd (Nat.lt_of_lt_of_le (Heap.lt_size (I.pin p hp).1) (by rw [z]; exact ha)) (Nat.lt_irrefl _)
/-- the class whose __init__ is called by its name -/
structure BaseI (K : PySem.W.Frag) (B : Addr) : Prop where
  sp : specialIn K (.ref B) "__getattribute__" = some (some (.builtin "type.__getattribute__"))
  rd : readsIn K B (.type "type") = true
  fc : findCls K (.ref B) (.type "type") "__init__" = some (.val (.builtin "ValueError.__init__"))
/-- Base.__init__(self, ..) -/
def kXI (K : PySem.W.Frag) (Q : VK) : List V → Hp → Prop := fun vs H => ∃ e C d fI rest, vs = .ref e :: rest ∧ H e = some (exH e C d) ∧ OwnI K C fI ∧ rest.length ≤ sizeLine ∧ Q .non H
def tXI (K : PySem.W.Frag) (t : TA) : TE := fun σ H Q => t σ H (kXI K Q)
theorem pe_xinit {x : Str} {B : Addr} {p apos pos : Pos} {e : Expr} {es : List Expr} {t : TA} {pl : Sem Bool} (hg : Gl X x) (hm : X.mg x = some (.ref B)) (b : BaseI X.K B) (ha : PA X (e :: es) t) (hdb : (x == ("__debug__" : Str)) = false := by decide)
    (hst : starEach (e :: es) X.env = (false, eval e X.env) :: starEach es X.env := by rfl) (hpl : (backTo pos (starEach es X.env)).any (·.1) = false := by rfl)
    (ht : eval (.Call (.Attribute (.Name x p) "__init__" apos) (e :: es) [] pos) X.env = (do
      let ov ← eval (.Name x p) X.env
      standAt apos.atName
      let (f, first) ← holding [ov] (getMethod ov "__init__" pl)
      callWith pos f first (backTo pos (starEach (e :: es) X.env)) (backToKw pos (keywordEach [] X.env))) := by rfl) :
    PE X (.Call (.Attribute (.Name x p) "__init__" apos) (e :: es) [] pos) (tXI X.K t) := by
  intro pins s σ H Q I h
  refine PySem.W.methodCall_KW (pl := pl) (ld_glob I hg hm ?_ hdb) ht
  refine method_cls I.kIn b.sp (cls_value I.kIn b.rd b.fc (by decide +kernel) ?_)
  have I1 := I.tok (s.toks + 1)
  refine PyProof.Rows.callWith_builtin1 (thn (ha pos pins _ σ H _ I1 h) fun us s1 ⟨vs, H1, J, r1, q1⟩ => ?_) hst hpl
  obtain ⟨ex, C, d, fI, rest, rfl, he, O, hl, q⟩ := q1
  cases r1 with
  | cons r rr =>
    cases r
    obtain ⟨t0, h0⟩ := exH_get (J.hok ex _ he)
    obtain ⟨nm, qq, N, bs, bm, hdct, sn, sub, ab, col, dd, k0, k1, k2, k3, k5, hC, T, _, _⟩ := O.op J.kIn
    refine init_base (h := s1.heap) (g := s1.gens) (d := s1.drawn) (t := s1.toks) (os := s1.os) PySem.F.excBase_ValueError T hC h0 (by rw [← rr.length]; exact hl) fun h' a1 q1 q2 => ?_
    have same : upd H1 ex (exH ex C d) = H1 := funext fun b => by
      by_cases hb : b = ex
      · rw [hb, upd_same, he]
      · rw [upd_ne hb]
    have J2 := J.write (t' := s1.toks) (x := ex) (e := ex) (o := exH ex C d) (by rw [he]; trivial) (.inl rfl) (fun b u hb z => q2 b u hb z) ⟨_, q1⟩ (exH_ok ⟨a1, q1⟩)
    rw [same] at J2
    exact ⟨.non, H1, J2, rfl, q⟩
end
end L2

set_option Elab.async false
set_option linter.all false
set_option maxRecDepth 100000
set_option maxHeartbeats 4000000
namespace L2
open PySem PySem.Spec PyProof.Rows PySem.W
/-! ### self.f = value, the first thing that an exception is given -/
def kXS1 (K : PySem.W.Frag) (f : Str) (y : V) (σ : St) (nx : St → Hp → Prop) : VK := fun x H => ∃ e C, x = .ref e ∧ H e = some (exH e C none) ∧ EStore K C ∧ takerIn K C f = some none ∧
  ∀ dx H', H dx = none → dx ≠ e → (∀ b o, b ≠ e → H b = some o → H' b = some o) → H' e = some (exH e C (some dx)) → H' dx = some (.xd [(f, y)]) → nx σ H'
def kXS0 (K : PySem.W.Frag) (f : Str) (ta : TE) (σ : St) (nx : St → Hp → Prop) : VK := fun y H => ta σ H (kXS1 K f y σ nx)
def xSetF (K : PySem.W.Frag) (ta tv : TE) (f : Str) : TS := fun D σ H => tv σ H (kXS0 K f ta σ D.nx)
section
variable {X : Cx} {e o value : Expr} {ta tv : TE} {f : Str} {pos pos' : Pos}
theorem ps_xset (ha : PE X o ta) (hv : PE X value tv) (hs : swapsWith value (some (.Attribute o f pos')) pos.line X.env = pure false) : PS X (.Assign [.Attribute o f pos'] value pos) (xSetF X.K ta tv f) := by
  intro pins s σ H D I h
  refine plainObj_wpAny_Assign_Attribute (thn (hv pins s σ H _ I h) fun u s1 ⟨y, H1, I1, ry, q⟩ => thn (ha pins s1 σ H1 _ I1 q) fun ov s2 ⟨x, H2, I2, rx, q1⟩ => ?_) hs
  obtain ⟨ex, C, rfl, he, st, ht, k⟩ := q1
  obtain rfl : ov = Value.ref ex := rx
  obtain ⟨t0, h0⟩ := exH_get (I2.hok ex _ he)
  refine set_exc st I2.kIn h0 ht fun h' tk q1 q2 q3 => ?_
  have fr : H2 s2.heap.objs.size = none := I2.hok.fresh (Nat.le_refl _)
  have ne : s2.heap.objs.size ≠ ex := Nat.ne_of_gt (Heap.lt_size h0)
  have J := I2.write (t' := tk) (x := ex) (e := ex) (o := exH ex C (some s2.heap.objs.size)) (by rw [he]; trivial) (.inl rfl) (fun b u hb z => q3 b u hb z) ⟨_, q1⟩ (exH_ok ⟨t0, q1⟩)
  have J2 := J.adopt (a := s2.heap.objs.size) (o := .xd [(f, y)]) (I2.newAt (Nat.le_refl _)) (by rw [upd_ne ne]; exact fr) ⟨_, q2, fun g => ?_⟩
  · refine ⟨σ, _, J2, k s2.heap.objs.size _ fr ne (fun b u hb z => ?_) ?_ upd_same⟩
    · rw [upd_ne (ne_of_none z fr), upd_ne hb]; exact z
    · rw [upd_ne (Ne.symm ne), upd_same]
  · show RelO (List.lookup g [(f, y)]) (if g = f then some u else none)
    by_cases hg : g = f
    · subst hg
      rw [if_pos rfl, List.lookup_cons_self]; exact ry
    · have hb : (g == f) = false := beq_eq_false_iff_ne.mpr hg
      rw [if_neg hg, List.lookup_cons, hb]; exact True.intro
end
/-! ### raise C(..), C with an __init__ of its own -/
def del (H : Hp) (e : Addr) : Hp := fun b => if b = e then none else H b
theorem del_same {H : Hp} {e : Addr} : del H e e = none := if_pos rfl
theorem del_ne {H : Hp} {e b : Addr} (h : b ≠ e) : del H e b = H b := if_neg h
theorem Inv.untrack {X : Cx} {pins : List (Addr × Obj)} {σ : St} {H : Hp} {s : Shared} {e C : Addr} {d : Option Addr} (I : Inv X pins σ H s) (he : H e = some (exH e C d)) : Inv X pins σ (del H e) s := by
  have ne : ∀ {b : Addr} {u : HO}, H b = some u → u ≠ exH e C d → b ≠ e := fun q z k => by rw [k, he] at q; exact z (Option.some.inj q).symm
  have no : ∀ {b : Addr}, H b = none → del H e b = none := fun {b} q => by
    by_cases hb : b = e
    · rw [hb]; exact del_same
    · rw [del_ne hb]; exact q
  refine ⟨I.ok, I.os, I.bare, ⟨I.base.keep, I.base.slot, fun b u q n hx => no (I.base.free b u q n hx), I.base.there, fun b xs q => ?_, fun b u v q => ?_, fun b ps q => ?_⟩, I.loc, I.cell, no I.free, fun x c q => no (I.freeC x c q), fun p hp => ?_, fun b u q => ?_, I.len⟩
  · have z := I.base.tups b xs q; rw [del_ne (ne z (by intro k; cases k))]; exact z
  · have z := I.base.frzs b u v q; rw [del_ne (ne z (by intro k; cases k))]; exact z
  · obtain ⟨m, z⟩ := I.base.tbls b ps q; exact ⟨m, by rw [del_ne (ne z (by intro k; cases k))]; exact z⟩
  · obtain ⟨a1, b1, c1, d1, f1⟩ := I.pin p hp
    exact ⟨a1, no b1, c1, d1, f1⟩
  · have hb : b ≠ e := fun z => by rw [z, del_same] at q; cases q
    rw [del_ne hb] at q
    exact (I.hok b u q).stay (fun _ _ _ r => r) (fun c r => by rw [del_ne (ne r (by intro k; cases k))]; exact r) fun c xs r => by rw [del_ne (ne r (by intro k; cases k))]; exact r
/-- what this body wants of an exception that was made here, with what it holds -/
def RaisesD (X : Cx) (E : XK) (σ : St) : Prop := ∀ (pins : List (Addr × Obj)) (H : Hp) (s : Shared) (e C : Addr) (d : Option Addr), Inv X pins σ H s → H e = none → X.s₀.heap.get? e = none → exO e C d s.heap → (∀ dx, d = some dx → ∃ fs, H dx = some (.xd fs)) → E (.ref C) d H → X.xe (.ref e) s
theorem raisesD_def {P : Program} {w : World} {K : PySem.W.Frag} {mg : Str → Option Value} {base : Heap} {N : List Str} {qual : Str} {scope : Scope} {f : Addr} {cd : Value} {A : Around} {outer : List Env} {s₀ : Shared} {H₀ : Hp} {E : XK} {σ : St} :
    RaisesD (cxOf (CX1 P w) P w K mg base N qual scope f cd A outer s₀ H₀ E) E σ := by
  intro pins H s e C d I hn hn0 hx hd hE
  obtain ⟨t, he⟩ := hx
  show wpAny (model P w) (A.deeper (envOfC qual scope s₀.heap.objs.size f cd)) (leaving (envOfC qual scope s₀.heap.objs.size f cd) (.ref e)) _ _ _
  unfold leaving
  have un : Un (frs outer) [] H₀ H s₀.heap s.heap := I.base
  refine wpAny_bind (note_new (s := s) (base := base) (outer := outer) I.ok.frames I.stack rfl he rfl rfl fun g T ng nT ex => ?_)
  refine ⟨e, T, .ref C, d, H, rfl, I.os, I.bare, un.noted ng hn0 (fun _ z => z.elim) (fun b hb => ?_), I.hok.noted ng hn (fun _ z => z.elim) I.stkFree, hn0, un.gone nT, hn, I.hok.gone nT, ex, hd, hE⟩
  rcases List.mem_cons.mp (I.stkSub b hb) with z | z
  · exact .inr (by rw [z]; exact Heap.get?_none_of_le (Nat.le_refl _))
  · exact .inl z
theorem raise_made {M : Model} {A : Around} {E : Value → Shared → Prop} {env : Env} {s : Shared} {x : Sem Value} {Q : Flow → Shared → Prop} {C : Addr} (hh : A.handled = none)
    (h : wpAny M A x (fun v s1 => ∃ e d nm q N bs bm hdct sn sub ab col dd k0 k1 k2 k3 k5 newId, v = .ref e ∧ s1.heap.get? C = some (excClassObj nm q C N bs bm hdct sn sub ab col dd k0 k1 k2 k3 k5 newId) ∧ bm.contains (.type "BaseException") = true ∧ exO e C d s1.heap ∧ E (.ref e) s1) E s) :
    wpAny M A (raiseStmt env (some x) none) Q E s := by
  unfold raiseStmt
  refine wpAny_bind (wpAny_mono h (fun v s1 h1 => ?_) fun _ _ z => z)
  obtain ⟨e, d, nm, q, N, bs, bm, hdct, sn, sub, ab, col, dd, k0, k1, k2, k3, k5, newId, rfl, hC, hb, ⟨t, he⟩, hE⟩ := h1
  have hcB : (Value.ref C :: bm).contains (.type "BaseException") = true := by rw [List.contains_cons, hb, Bool.or_true]
  obtain ⟨hp, g, dr, tk, os⟩ := s1
  repeat (first | with_reducible refine wpAny_loadPart_at he ?_ | with_reducible refine wpAny_loadPart_at hC ?_ | (with_reducible refine wpAny_isSubtype_exc hC ?_; rw [hcB]) | wp_step)
  exact wpAny_raiseNew_none hh hE
section
variable {X : Cx}
def kRz (e C : Addr) (E : XK) : VK := fun v H => v = .non ∧ ∃ d, H e = some (exH e C d) ∧ (∀ dx, d = some dx → ∃ fs, del H e dx = some (.xd fs)) ∧ E (.ref C) d (del H e)
def kRI (C : Addr) (sp : Sp) (E : XK) : List V → Hp → Prop := fun vs H => vs.length ≤ sizeLine ∧ ∀ e, H e = none → sp (.ref e :: vs) (upd H e (exH e C none)) (kRz e C E) E0
def tRaiseI (C : Addr) (sp : Sp) (E : St → XK) (t : TA) : TS := fun _ σ H => t σ H (kRI C sp (E σ))
theorem ps_raiseI {C fI : Addr} {fd : FuncData} {ps : List Str} {sp : Sp} {k : Nat} {x : Str} {e₀ : Expr} {rest : List Expr} {np cpos pos : Pos} {t : TA} {E : St → XK} (hc : X.calm = true) (hg : Gl X x) (hmg : X.mg x = some (.ref C)) (O : OwnI X.K C fI)
    (F : FnOk X.prog X.w X.K X.mg X.base CX0 k fI fd ps sp) (hr : Room (k + 1) X.A) (hb : Binds X.K fd ps []) (hx : ∀ σ, RaisesD X (E σ) σ) (ha : PA X (e₀ :: rest) t)
    (he : starEach (e₀ :: rest) X.env = (false, eval e₀ X.env) :: starEach rest X.env := by rfl) (hplain : (backTo cpos (starEach rest X.env)).any (·.1) = false := by rfl) (hdb : (x == ("__debug__" : Str)) = false := by decide) :
    PS X (.Raise (some (.Call (.Name x np) (e₀ :: rest) [] cpos)) none pos) (tRaiseI C sp E t) := by
  intro pins s σ H D I h
  rw [arm_exec_Raise]
  refine wpAny_bind (wpAny_standAt (raise_made (C := C) (I.ok.hd hc) (wpAny_bind (wpAny_mono (wpAny_Call_ofName (ld_glob I hg hmg ?_ hdb)) (fun v s3 h3 => wpAny_bind (wpAny_standAt (wpAny_pure h3))) fun _ _ z => z))))
  unfold callWith
  have hh := ha cpos pins s σ H _ I h
  rw [he] at hh ⊢
  refine wpAny_bind (wpAny_holding (Calls.evalArgs_plain (thn hh fun us s2 ⟨vs, H2, I2, r, hl, hsp⟩ => wpAny_bind (wpAny_standAt ?_))))
  obtain ⟨nm, qq, N, bs, bm, hdct, sn, sub, ab, col, dd, k0, k1, k2, k3, k5, hC, T, hN, hi⟩ := O.op I2.kIn
  have hpl2 : (backTo cpos ((false, eval e₀ X.env) :: starEach rest X.env)).any (·.1) = false := (Bool.false_or _).trans hplain
  have I3 : Inv X pins σ (upd H2 (s2.heap.objs.size + 1) (exH (s2.heap.objs.size + 1) C none)) { s2 with heap := exNew C us s2.heap } := by
    have J := I2.kept (t' := s2.toks) (h' := s2.heap.push { cls := .type "tuple", data := .seq us.toArray }) fun b u q => Heap.get?_push_of_some _ q
    refine J.laid (t' := s2.toks) (a := s2.heap.objs.size + 1) (o := exH (s2.heap.objs.size + 1) C none) (fun b u q => Heap.get?_push_of_some _ q) (Nat.le_of_eq (Heap.size_push _ _)) (exH_ok ⟨s2.heap.objs.size, ?_⟩)
    have := Heap.get?_push_size (s2.heap.push { cls := .type "tuple", data := .seq us.toArray }) (o := ⟨.ref C, none, .fields #[.ref s2.heap.objs.size, .none, .none, .none, .bool false, .none], #[]⟩) rfl
    rwa [Heap.size_push] at this
  have hq := hsp (s2.heap.objs.size + 1) (I2.hok.fresh (Nat.le_succ _))
  have r2 : Vals (V.ref (s2.heap.objs.size + 1) :: vs) (Value.ref (s2.heap.objs.size + 1) :: us) := .cons rfl r
  have hl2 : (Value.ref (s2.heap.objs.size + 1) :: us ++ []).length = ps.length := by
    rw [List.append_nil, ← r2.length]; exact F.len _ _ _ _ hq
  simp only [hpl2]
  refine wpAny_bind (wpAny_keeperOf_exc (h := s2.heap) (g := s2.gens) (d := s2.drawn) (t := s2.toks) (os := s2.os) hC ?_)
  refine wpAny_bind (wpAny_call (exc_own (h := s2.heap) (g := s2.gens) (d := s2.drawn) (t := s2.toks) (os := s2.os) PySem.F.excBase_ValueError (by decide +kernel) PySem.F.excBase_ValueError T hC hN hi I2.kIn O.fn (by show us.length ≤ sizeLine; rw [← r.length]; exact hl) ?_))
  have hbind := hb { s2 with heap := exNew C us s2.heap } (Value.ref (s2.heap.objs.size + 1) :: us) I3.kIn hl2
  rw [List.append_nil] at hbind
  refine codeAny_mono (F.run _ X.stack _ _ ⟨Value.ref (s2.heap.objs.size + 1) :: us, []⟩ (Value.ref (s2.heap.objs.size + 1) :: us) _ _ E0 (hr.make C us []) (I3.env0.make C us []) hbind r2 hq) fun rr s' hq' => ?_
  cases rr with
  | error e => exact hq'.elim
  | ok fl =>
    cases fl with
    | ret u =>
      obtain ⟨v, H', I4, rv, rfl, d, hd1, hd2, hE⟩ := I3.after hq'
      cases rv
      refine ⟨rfl, wpAny_bind (wpAny_holding (wpAny_point (wpAny_pure ?_)))⟩
      obtain ⟨nm', qq', N', bs', bm', hdct', sn', sub', ab', col', dd', k0', k1', k2', k3', k5', hC', T', _, _⟩ := O.op I4.kIn
      exact ⟨s2.heap.objs.size + 1, d, nm', qq', N', bs', bm', hdct', sn', sub', ab', col', dd', k0', k1', k2', k3', k5', _, rfl, hC', T'.hasType (by decide +kernel), exH_get (I4.hok _ _ hd1),
        hx σ pins (del H' (s2.heap.objs.size + 1)) s' _ C d (I4.untrack hd1) del_same (Heap.get?_none_of_le (Nat.le_trans I2.sz (Nat.le_succ _))) (exH_get (I4.hok _ _ hd1)) hd2 hE⟩
    | next => exact False.elim hq'
    | brk => exact False.elim hq'
    | cont => exact False.elim hq'
/-! ### e.f of an exception that was caught -/
def kXF (K : PySem.W.Frag) (f : Str) (Q : VK) : VK := fun x H => ∃ e oe C dx fs v, x = .ref e ∧ H e = some (excO oe) ∧ oe.cls = .ref C ∧ oe.dict = some dx ∧ (∃ vs, oe.data = .fields vs) ∧ H dx = some (.xd fs) ∧ ECls K C ∧ NoAttr K C f ∧ fs.lookup f = some v ∧ Q v H
def tXF (K : PySem.W.Frag) (ta : TE) (f : Str) : TE := fun σ H Q => ta σ H (kXF K f Q)
theorem pe_xfld {e : Expr} {f : Str} {pos : Pos} {ta : TE} (he : PE X e ta) (hb : attributeBase e f X.env (eval e X.env) = eval e X.env) : PE X (.Attribute e f pos) (tXF X.K ta f) := by
  intro pins s σ H Q I h
  refine attr_of hb (thn (he pins s σ H _ I h) fun u s1 ⟨x, H1, I1, rx, q1⟩ => ?_)
  obtain ⟨ex, oe, C, dx, fs, v, rfl, hx, hcl, hd, ⟨vs, hdat⟩, hxd, c, n, l, q⟩ := q1
  obtain rfl : u = Value.ref ex := rx
  have h1 : s1.heap.get? ex = some oe := (I1.hok ex _ hx).1
  obtain ⟨mA, hn, hr⟩ := I1.hok dx _ hxd
  obtain ⟨u, hu, ru⟩ := RelO.some_of (v := v) (o := mA f) (by rw [← l]; exact hr f)
  exact exc_get c I1.kIn h1 hcl (by unfold notCls; rw [hdat]) hd hn n hu (handed_of ru) ⟨v, H1, I1.tok _, ru, q⟩
theorem pe_xfld' {K : PySem.W.Frag} (hK : X.K = K) {e : Expr} {f : Str} {pos : Pos} {ta : TE} (he : PE X e ta) (hb : attributeBase e f X.env (eval e X.env) = eval e X.env) : PE X (.Attribute e f pos) (tXF K ta f) := hK ▸ pe_xfld he hb
end
end L2

set_option Elab.async false
set_option linter.all false
set_option maxRecDepth 100000
set_option maxHeartbeats 4000000
namespace L2
open PySem
open PySem.Spec PyProof.Rows
theorem tVar_0 {v : V} {σ : St} {H : Hp} {Q : VK} : tVar 0 (some v :: σ) H Q = Q v H := propext ⟨fun ⟨_, e, q⟩ => by cases e; exact q, fun q => ⟨v, rfl, q⟩⟩
theorem gName_0 {a : Option V} {v : V} {σ : St} {H : Hp} {Q : St → Hp → Prop} : gName 0 v (a :: σ) H Q = Q (some v :: σ) H := rfl
theorem tVar_1 {a0 : Option V} {v : V} {σ : St} {H : Hp} {Q : VK} : tVar 1 (a0 :: some v :: σ) H Q = Q v H := propext ⟨fun ⟨_, e, q⟩ => by cases e; exact q, fun q => ⟨v, rfl, q⟩⟩
theorem gName_1 {a0 : Option V} {a : Option V} {v : V} {σ : St} {H : Hp} {Q : St → Hp → Prop} : gName 1 v (a0 :: a :: σ) H Q = Q (a0 :: some v :: σ) H := rfl
theorem tVar_2 {a0 a1 : Option V} {v : V} {σ : St} {H : Hp} {Q : VK} : tVar 2 (a0 :: a1 :: some v :: σ) H Q = Q v H := propext ⟨fun ⟨_, e, q⟩ => by cases e; exact q, fun q => ⟨v, rfl, q⟩⟩
theorem gName_2 {a0 a1 : Option V} {a : Option V} {v : V} {σ : St} {H : Hp} {Q : St → Hp → Prop} : gName 2 v (a0 :: a1 :: a :: σ) H Q = Q (a0 :: a1 :: some v :: σ) H := rfl
theorem tVar_3 {a0 a1 a2 : Option V} {v : V} {σ : St} {H : Hp} {Q : VK} : tVar 3 (a0 :: a1 :: a2 :: some v :: σ) H Q = Q v H := propext ⟨fun ⟨_, e, q⟩ => by cases e; exact q, fun q => ⟨v, rfl, q⟩⟩
theorem gName_3 {a0 a1 a2 : Option V} {a : Option V} {v : V} {σ : St} {H : Hp} {Q : St → Hp → Prop} : gName 3 v (a0 :: a1 :: a2 :: a :: σ) H Q = Q (a0 :: a1 :: a2 :: some v :: σ) H := rfl
theorem tVar_4 {a0 a1 a2 a3 : Option V} {v : V} {σ : St} {H : Hp} {Q : VK} : tVar 4 (a0 :: a1 :: a2 :: a3 :: some v :: σ) H Q = Q v H := propext ⟨fun ⟨_, e, q⟩ => by cases e; exact q, fun q => ⟨v, rfl, q⟩⟩
theorem gName_4 {a0 a1 a2 a3 : Option V} {a : Option V} {v : V} {σ : St} {H : Hp} {Q : St → Hp → Prop} : gName 4 v (a0 :: a1 :: a2 :: a3 :: a :: σ) H Q = Q (a0 :: a1 :: a2 :: a3 :: some v :: σ) H := rfl
theorem tVar_5 {a0 a1 a2 a3 a4 : Option V} {v : V} {σ : St} {H : Hp} {Q : VK} : tVar 5 (a0 :: a1 :: a2 :: a3 :: a4 :: some v :: σ) H Q = Q v H := propext ⟨fun ⟨_, e, q⟩ => by cases e; exact q, fun q => ⟨v, rfl, q⟩⟩
theorem gName_5 {a0 a1 a2 a3 a4 : Option V} {a : Option V} {v : V} {σ : St} {H : Hp} {Q : St → Hp → Prop} : gName 5 v (a0 :: a1 :: a2 :: a3 :: a4 :: a :: σ) H Q = Q (a0 :: a1 :: a2 :: a3 :: a4 :: some v :: σ) H := rfl
theorem tVar_6 {a0 a1 a2 a3 a4 a5 : Option V} {v : V} {σ : St} {H : Hp} {Q : VK} : tVar 6 (a0 :: a1 :: a2 :: a3 :: a4 :: a5 :: some v :: σ) H Q = Q v H := propext ⟨fun ⟨_, e, q⟩ => by cases e; exact q, fun q => ⟨v, rfl, q⟩⟩
theorem gName_6 {a0 a1 a2 a3 a4 a5 : Option V} {a : Option V} {v : V} {σ : St} {H : Hp} {Q : St → Hp → Prop} : gName 6 v (a0 :: a1 :: a2 :: a3 :: a4 :: a5 :: a :: σ) H Q = Q (a0 :: a1 :: a2 :: a3 :: a4 :: a5 :: some v :: σ) H := rfl
theorem tVar_7 {a0 a1 a2 a3 a4 a5 a6 : Option V} {v : V} {σ : St} {H : Hp} {Q : VK} : tVar 7 (a0 :: a1 :: a2 :: a3 :: a4 :: a5 :: a6 :: some v :: σ) H Q = Q v H := propext ⟨fun ⟨_, e, q⟩ => by cases e; exact q, fun q => ⟨v, rfl, q⟩⟩
theorem gName_7 {a0 a1 a2 a3 a4 a5 a6 : Option V} {a : Option V} {v : V} {σ : St} {H : Hp} {Q : St → Hp → Prop} : gName 7 v (a0 :: a1 :: a2 :: a3 :: a4 :: a5 :: a6 :: a :: σ) H Q = Q (a0 :: a1 :: a2 :: a3 :: a4 :: a5 :: a6 :: some v :: σ) H := rfl
theorem tVar_8 {a0 a1 a2 a3 a4 a5 a6 a7 : Option V} {v : V} {σ : St} {H : Hp} {Q : VK} : tVar 8 (a0 :: a1 :: a2 :: a3 :: a4 :: a5 :: a6 :: a7 :: some v :: σ) H Q = Q v H := propext ⟨fun ⟨_, e, q⟩ => by cases e; exact q, fun q => ⟨v, rfl, q⟩⟩
theorem gName_8 {a0 a1 a2 a3 a4 a5 a6 a7 : Option V} {a : Option V} {v : V} {σ : St} {H : Hp} {Q : St → Hp → Prop} : gName 8 v (a0 :: a1 :: a2 :: a3 :: a4 :: a5 :: a6 :: a7 :: a :: σ) H Q = Q (a0 :: a1 :: a2 :: a3 :: a4 :: a5 :: a6 :: a7 :: some v :: σ) H := rfl
theorem tVar_9 {a0 a1 a2 a3 a4 a5 a6 a7 a8 : Option V} {v : V} {σ : St} {H : Hp} {Q : VK} : tVar 9 (a0 :: a1 :: a2 :: a3 :: a4 :: a5 :: a6 :: a7 :: a8 :: some v :: σ) H Q = Q v H := propext ⟨fun ⟨_, e, q⟩ => by cases e; exact q, fun q => ⟨v, rfl, q⟩⟩
theorem gName_9 {a0 a1 a2 a3 a4 a5 a6 a7 a8 : Option V} {a : Option V} {v : V} {σ : St} {H : Hp} {Q : St → Hp → Prop} : gName 9 v (a0 :: a1 :: a2 :: a3 :: a4 :: a5 :: a6 :: a7 :: a8 :: a :: σ) H Q = Q (a0 :: a1 :: a2 :: a3 :: a4 :: a5 :: a6 :: a7 :: a8 :: some v :: σ) H := rfl
theorem tVar_10 {a0 a1 a2 a3 a4 a5 a6 a7 a8 a9 : Option V} {v : V} {σ : St} {H : Hp} {Q : VK} : tVar 10 (a0 :: a1 :: a2 :: a3 :: a4 :: a5 :: a6 :: a7 :: a8 :: a9 :: some v :: σ) H Q = Q v H := propext ⟨fun ⟨_, e, q⟩ => by cases e; exact q, fun q => ⟨v, rfl, q⟩⟩
theorem gName_10 {a0 a1 a2 a3 a4 a5 a6 a7 a8 a9 : Option V} {a : Option V} {v : V} {σ : St} {H : Hp} {Q : St → Hp → Prop} : gName 10 v (a0 :: a1 :: a2 :: a3 :: a4 :: a5 :: a6 :: a7 :: a8 :: a9 :: a :: σ) H Q = Q (a0 :: a1 :: a2 :: a3 :: a4 :: a5 :: a6 :: a7 :: a8 :: a9 :: some v :: σ) H := rfl
theorem tVar_11 {a0 a1 a2 a3 a4 a5 a6 a7 a8 a9 a10 : Option V} {v : V} {σ : St} {H : Hp} {Q : VK} : tVar 11 (a0 :: a1 :: a2 :: a3 :: a4 :: a5 :: a6 :: a7 :: a8 :: a9 :: a10 :: some v :: σ) H Q = Q v H := propext ⟨fun ⟨_, e, q⟩ => by cases e; exact q, fun q => ⟨v, rfl, q⟩⟩
theorem gName_11 {a0 a1 a2 a3 a4 a5 a6 a7 a8 a9 a10 : Option V} {a : Option V} {v : V} {σ : St} {H : Hp} {Q : St → Hp → Prop} : gName 11 v (a0 :: a1 :: a2 :: a3 :: a4 :: a5 :: a6 :: a7 :: a8 :: a9 :: a10 :: a :: σ) H Q = Q (a0 :: a1 :: a2 :: a3 :: a4 :: a5 :: a6 :: a7 :: a8 :: a9 :: a10 :: some v :: σ) H := rfl
theorem tVar_12 {a0 a1 a2 a3 a4 a5 a6 a7 a8 a9 a10 a11 : Option V} {v : V} {σ : St} {H : Hp} {Q : VK} : tVar 12 (a0 :: a1 :: a2 :: a3 :: a4 :: a5 :: a6 :: a7 :: a8 :: a9 :: a10 :: a11 :: some v :: σ) H Q = Q v H := propext ⟨fun ⟨_, e, q⟩ => by cases e; exact q, fun q => ⟨v, rfl, q⟩⟩
theorem gName_12 {a0 a1 a2 a3 a4 a5 a6 a7 a8 a9 a10 a11 : Option V} {a : Option V} {v : V} {σ : St} {H : Hp} {Q : St → Hp → Prop} : gName 12 v (a0 :: a1 :: a2 :: a3 :: a4 :: a5 :: a6 :: a7 :: a8 :: a9 :: a10 :: a11 :: a :: σ) H Q = Q (a0 :: a1 :: a2 :: a3 :: a4 :: a5 :: a6 :: a7 :: a8 :: a9 :: a10 :: a11 :: some v :: σ) H := rfl
theorem tVar_13 {a0 a1 a2 a3 a4 a5 a6 a7 a8 a9 a10 a11 a12 : Option V} {v : V} {σ : St} {H : Hp} {Q : VK} : tVar 13 (a0 :: a1 :: a2 :: a3 :: a4 :: a5 :: a6 :: a7 :: a8 :: a9 :: a10 :: a11 :: a12 :: some v :: σ) H Q = Q v H := propext ⟨fun ⟨_, e, q⟩ => by cases e; exact q, fun q => ⟨v, rfl, q⟩⟩
theorem gName_13 {a0 a1 a2 a3 a4 a5 a6 a7 a8 a9 a10 a11 a12 : Option V} {a : Option V} {v : V} {σ : St} {H : Hp} {Q : St → Hp → Prop} : gName 13 v (a0 :: a1 :: a2 :: a3 :: a4 :: a5 :: a6 :: a7 :: a8 :: a9 :: a10 :: a11 :: a12 :: a :: σ) H Q = Q (a0 :: a1 :: a2 :: a3 :: a4 :: a5 :: a6 :: a7 :: a8 :: a9 :: a10 :: a11 :: a12 :: some v :: σ) H := rfl
theorem tVar_14 {a0 a1 a2 a3 a4 a5 a6 a7 a8 a9 a10 a11 a12 a13 : Option V} {v : V} {σ : St} {H : Hp} {Q : VK} : tVar 14 (a0 :: a1 :: a2 :: a3 :: a4 :: a5 :: a6 :: a7 :: a8 :: a9 :: a10 :: a11 :: a12 :: a13 :: some v :: σ) H Q = Q v H := propext ⟨fun ⟨_, e, q⟩ => by cases e; exact q, fun q => ⟨v, rfl, q⟩⟩
theorem gName_14 {a0 a1 a2 a3 a4 a5 a6 a7 a8 a9 a10 a11 a12 a13 : Option V} {a : Option V} {v : V} {σ : St} {H : Hp} {Q : St → Hp → Prop} : gName 14 v (a0 :: a1 :: a2 :: a3 :: a4 :: a5 :: a6 :: a7 :: a8 :: a9 :: a10 :: a11 :: a12 :: a13 :: a :: σ) H Q = Q (a0 :: a1 :: a2 :: a3 :: a4 :: a5 :: a6 :: a7 :: a8 :: a9 :: a10 :: a11 :: a12 :: a13 :: some v :: σ) H := rfl
theorem tVar_15 {a0 a1 a2 a3 a4 a5 a6 a7 a8 a9 a10 a11 a12 a13 a14 : Option V} {v : V} {σ : St} {H : Hp} {Q : VK} : tVar 15 (a0 :: a1 :: a2 :: a3 :: a4 :: a5 :: a6 :: a7 :: a8 :: a9 :: a10 :: a11 :: a12 :: a13 :: a14 :: some v :: σ) H Q = Q v H := propext ⟨fun ⟨_, e, q⟩ => by cases e; exact q, fun q => ⟨v, rfl, q⟩⟩
theorem gName_15 {a0 a1 a2 a3 a4 a5 a6 a7 a8 a9 a10 a11 a12 a13 a14 : Option V} {a : Option V} {v : V} {σ : St} {H : Hp} {Q : St → Hp → Prop} : gName 15 v (a0 :: a1 :: a2 :: a3 :: a4 :: a5 :: a6 :: a7 :: a8 :: a9 :: a10 :: a11 :: a12 :: a13 :: a14 :: a :: σ) H Q = Q (a0 :: a1 :: a2 :: a3 :: a4 :: a5 :: a6 :: a7 :: a8 :: a9 :: a10 :: a11 :: a12 :: a13 :: a14 :: some v :: σ) H := rfl
theorem tVar_16 {a0 a1 a2 a3 a4 a5 a6 a7 a8 a9 a10 a11 a12 a13 a14 a15 : Option V} {v : V} {σ : St} {H : Hp} {Q : VK} : tVar 16 (a0 :: a1 :: a2 :: a3 :: a4 :: a5 :: a6 :: a7 :: a8 :: a9 :: a10 :: a11 :: a12 :: a13 :: a14 :: a15 :: some v :: σ) H Q = Q v H := propext ⟨fun ⟨_, e, q⟩ => by cases e; exact q, fun q => ⟨v, rfl, q⟩⟩
theorem gName_16 {a0 a1 a2 a3 a4 a5 a6 a7 a8 a9 a10 a11 a12 a13 a14 a15 : Option V} {a : Option V} {v : V} {σ : St} {H : Hp} {Q : St → Hp → Prop} : gName 16 v (a0 :: a1 :: a2 :: a3 :: a4 :: a5 :: a6 :: a7 :: a8 :: a9 :: a10 :: a11 :: a12 :: a13 :: a14 :: a15 :: a :: σ) H Q = Q (a0 :: a1 :: a2 :: a3 :: a4 :: a5 :: a6 :: a7 :: a8 :: a9 :: a10 :: a11 :: a12 :: a13 :: a14 :: a15 :: some v :: σ) H := rfl
theorem tVar_17 {a0 a1 a2 a3 a4 a5 a6 a7 a8 a9 a10 a11 a12 a13 a14 a15 a16 : Option V} {v : V} {σ : St} {H : Hp} {Q : VK} : tVar 17 (a0 :: a1 :: a2 :: a3 :: a4 :: a5 :: a6 :: a7 :: a8 :: a9 :: a10 :: a11 :: a12 :: a13 :: a14 :: a15 :: a16 :: some v :: σ) H Q = Q v H := propext ⟨fun ⟨_, e, q⟩ => by cases e; exact q, fun q => ⟨v, rfl, q⟩⟩
theorem gName_17 {a0 a1 a2 a3 a4 a5 a6 a7 a8 a9 a10 a11 a12 a13 a14 a15 a16 : Option V} {a : Option V} {v : V} {σ : St} {H : Hp} {Q : St → Hp → Prop} : gName 17 v (a0 :: a1 :: a2 :: a3 :: a4 :: a5 :: a6 :: a7 :: a8 :: a9 :: a10 :: a11 :: a12 :: a13 :: a14 :: a15 :: a16 :: a :: σ) H Q = Q (a0 :: a1 :: a2 :: a3 :: a4 :: a5 :: a6 :: a7 :: a8 :: a9 :: a10 :: a11 :: a12 :: a13 :: a14 :: a15 :: a16 :: some v :: σ) H := rfl
theorem tVar_18 {a0 a1 a2 a3 a4 a5 a6 a7 a8 a9 a10 a11 a12 a13 a14 a15 a16 a17 : Option V} {v : V} {σ : St} {H : Hp} {Q : VK} : tVar 18 (a0 :: a1 :: a2 :: a3 :: a4 :: a5 :: a6 :: a7 :: a8 :: a9 :: a10 :: a11 :: a12 :: a13 :: a14 :: a15 :: a16 :: a17 :: some v :: σ) H Q = Q v H := propext ⟨fun ⟨_, e, q⟩ => by cases e; exact q, fun q => ⟨v, rfl, q⟩⟩
theorem gName_18 {a0 a1 a2 a3 a4 a5 a6 a7 a8 a9 a10 a11 a12 a13 a14 a15 a16 a17 : Option V} {a : Option V} {v : V} {σ : St} {H : Hp} {Q : St → Hp → Prop} : gName 18 v (a0 :: a1 :: a2 :: a3 :: a4 :: a5 :: a6 :: a7 :: a8 :: a9 :: a10 :: a11 :: a12 :: a13 :: a14 :: a15 :: a16 :: a17 :: a :: σ) H Q = Q (a0 :: a1 :: a2 :: a3 :: a4 :: a5 :: a6 :: a7 :: a8 :: a9 :: a10 :: a11 :: a12 :: a13 :: a14 :: a15 :: a16 :: a17 :: some v :: σ) H := rfl
theorem tVar_19 {a0 a1 a2 a3 a4 a5 a6 a7 a8 a9 a10 a11 a12 a13 a14 a15 a16 a17 a18 : Option V} {v : V} {σ : St} {H : Hp} {Q : VK} : tVar 19 (a0 :: a1 :: a2 :: a3 :: a4 :: a5 :: a6 :: a7 :: a8 :: a9 :: a10 :: a11 :: a12 :: a13 :: a14 :: a15 :: a16 :: a17 :: a18 :: some v :: σ) H Q = Q v H := propext ⟨fun ⟨_, e, q⟩ => by cases e; exact q, fun q => ⟨v, rfl, q⟩⟩
theorem gName_19 {a0 a1 a2 a3 a4 a5 a6 a7 a8 a9 a10 a11 a12 a13 a14 a15 a16 a17 a18 : Option V} {a : Option V} {v : V} {σ : St} {H : Hp} {Q : St → Hp → Prop} : gName 19 v (a0 :: a1 :: a2 :: a3 :: a4 :: a5 :: a6 :: a7 :: a8 :: a9 :: a10 :: a11 :: a12 :: a13 :: a14 :: a15 :: a16 :: a17 :: a18 :: a :: σ) H Q = Q (a0 :: a1 :: a2 :: a3 :: a4 :: a5 :: a6 :: a7 :: a8 :: a9 :: a10 :: a11 :: a12 :: a13 :: a14 :: a15 :: a16 :: a17 :: a18 :: some v :: σ) H := rfl
theorem tVar_20 {a0 a1 a2 a3 a4 a5 a6 a7 a8 a9 a10 a11 a12 a13 a14 a15 a16 a17 a18 a19 : Option V} {v : V} {σ : St} {H : Hp} {Q : VK} : tVar 20 (a0 :: a1 :: a2 :: a3 :: a4 :: a5 :: a6 :: a7 :: a8 :: a9 :: a10 :: a11 :: a12 :: a13 :: a14 :: a15 :: a16 :: a17 :: a18 :: a19 :: some v :: σ) H Q = Q v H := propext ⟨fun ⟨_, e, q⟩ => by cases e; exact q, fun q => ⟨v, rfl, q⟩⟩
theorem gName_20 {a0 a1 a2 a3 a4 a5 a6 a7 a8 a9 a10 a11 a12 a13 a14 a15 a16 a17 a18 a19 : Option V} {a : Option V} {v : V} {σ : St} {H : Hp} {Q : St → Hp → Prop} : gName 20 v (a0 :: a1 :: a2 :: a3 :: a4 :: a5 :: a6 :: a7 :: a8 :: a9 :: a10 :: a11 :: a12 :: a13 :: a14 :: a15 :: a16 :: a17 :: a18 :: a19 :: a :: σ) H Q = Q (a0 :: a1 :: a2 :: a3 :: a4 :: a5 :: a6 :: a7 :: a8 :: a9 :: a10 :: a11 :: a12 :: a13 :: a14 :: a15 :: a16 :: a17 :: a18 :: a19 :: some v :: σ) H := rfl
theorem tVar_21 {a0 a1 a2 a3 a4 a5 a6 a7 a8 a9 a10 a11 a12 a13 a14 a15 a16 a17 a18 a19 a20 : Option V} {v : V} {σ : St} {H : Hp} {Q : VK} : tVar 21 (a0 :: a1 :: a2 :: a3 :: a4 :: a5 :: a6 :: a7 :: a8 :: a9 :: a10 :: a11 :: a12 :: a13 :: a14 :: a15 :: a16 :: a17 :: a18 :: a19 :: a20 :: some v :: σ) H Q = Q v H := propext ⟨fun ⟨_, e, q⟩ => by cases e; exact q, fun q => ⟨v, rfl, q⟩⟩
theorem gName_21 {a0 a1 a2 a3 a4 a5 a6 a7 a8 a9 a10 a11 a12 a13 a14 a15 a16 a17 a18 a19 a20 : Option V} {a : Option V} {v : V} {σ : St} {H : Hp} {Q : St → Hp → Prop} : gName 21 v (a0 :: a1 :: a2 :: a3 :: a4 :: a5 :: a6 :: a7 :: a8 :: a9 :: a10 :: a11 :: a12 :: a13 :: a14 :: a15 :: a16 :: a17 :: a18 :: a19 :: a20 :: a :: σ) H Q = Q (a0 :: a1 :: a2 :: a3 :: a4 :: a5 :: a6 :: a7 :: a8 :: a9 :: a10 :: a11 :: a12 :: a13 :: a14 :: a15 :: a16 :: a17 :: a18 :: a19 :: a20 :: some v :: σ) H := rfl
theorem tVar_22 {a0 a1 a2 a3 a4 a5 a6 a7 a8 a9 a10 a11 a12 a13 a14 a15 a16 a17 a18 a19 a20 a21 : Option V} {v : V} {σ : St} {H : Hp} {Q : VK} : tVar 22 (a0 :: a1 :: a2 :: a3 :: a4 :: a5 :: a6 :: a7 :: a8 :: a9 :: a10 :: a11 :: a12 :: a13 :: a14 :: a15 :: a16 :: a17 :: a18 :: a19 :: a20 :: a21 :: some v :: σ) H Q = Q v H := propext ⟨fun ⟨_, e, q⟩ => by cases e; exact q, fun q => ⟨v, rfl, q⟩⟩
theorem gName_22 {a0 a1 a2 a3 a4 a5 a6 a7 a8 a9 a10 a11 a12 a13 a14 a15 a16 a17 a18 a19 a20 a21 : Option V} {a : Option V} {v : V} {σ : St} {H : Hp} {Q : St → Hp → Prop} : gName 22 v (a0 :: a1 :: a2 :: a3 :: a4 :: a5 :: a6 :: a7 :: a8 :: a9 :: a10 :: a11 :: a12 :: a13 :: a14 :: a15 :: a16 :: a17 :: a18 :: a19 :: a20 :: a21 :: a :: σ) H Q = Q (a0 :: a1 :: a2 :: a3 :: a4 :: a5 :: a6 :: a7 :: a8 :: a9 :: a10 :: a11 :: a12 :: a13 :: a14 :: a15 :: a16 :: a17 :: a18 :: a19 :: a20 :: a21 :: some v :: σ) H := rfl
theorem tVar_23 {a0 a1 a2 a3 a4 a5 a6 a7 a8 a9 a10 a11 a12 a13 a14 a15 a16 a17 a18 a19 a20 a21 a22 : Option V} {v : V} {σ : St} {H : Hp} {Q : VK} : tVar 23 (a0 :: a1 :: a2 :: a3 :: a4 :: a5 :: a6 :: a7 :: a8 :: a9 :: a10 :: a11 :: a12 :: a13 :: a14 :: a15 :: a16 :: a17 :: a18 :: a19 :: a20 :: a21 :: a22 :: some v :: σ) H Q = Q v H := propext ⟨fun ⟨_, e, q⟩ => by cases e; exact q, fun q => ⟨v, rfl, q⟩⟩
theorem gName_23 {a0 a1 a2 a3 a4 a5 a6 a7 a8 a9 a10 a11 a12 a13 a14 a15 a16 a17 a18 a19 a20 a21 a22 : Option V} {a : Option V} {v : V} {σ : St} {H : Hp} {Q : St → Hp → Prop} : gName 23 v (a0 :: a1 :: a2 :: a3 :: a4 :: a5 :: a6 :: a7 :: a8 :: a9 :: a10 :: a11 :: a12 :: a13 :: a14 :: a15 :: a16 :: a17 :: a18 :: a19 :: a20 :: a21 :: a22 :: a :: σ) H Q = Q (a0 :: a1 :: a2 :: a3 :: a4 :: a5 :: a6 :: a7 :: a8 :: a9 :: a10 :: a11 :: a12 :: a13 :: a14 :: a15 :: a16 :: a17 :: a18 :: a19 :: a20 :: a21 :: a22 :: some v :: σ) H := rfl
theorem tVar_24 {a0 a1 a2 a3 a4 a5 a6 a7 a8 a9 a10 a11 a12 a13 a14 a15 a16 a17 a18 a19 a20 a21 a22 a23 : Option V} {v : V} {σ : St} {H : Hp} {Q : VK} : tVar 24 (a0 :: a1 :: a2 :: a3 :: a4 :: a5 :: a6 :: a7 :: a8 :: a9 :: a10 :: a11 :: a12 :: a13 :: a14 :: a15 :: a16 :: a17 :: a18 :: a19 :: a20 :: a21 :: a22 :: a23 :: some v :: σ) H Q = Q v H := propext ⟨fun ⟨_, e, q⟩ => by cases e; exact q, fun q => ⟨v, rfl, q⟩⟩
theorem gName_24 {a0 a1 a2 a3 a4 a5 a6 a7 a8 a9 a10 a11 a12 a13 a14 a15 a16 a17 a18 a19 a20 a21 a22 a23 : Option V} {a : Option V} {v : V} {σ : St} {H : Hp} {Q : St → Hp → Prop} : gName 24 v (a0 :: a1 :: a2 :: a3 :: a4 :: a5 :: a6 :: a7 :: a8 :: a9 :: a10 :: a11 :: a12 :: a13 :: a14 :: a15 :: a16 :: a17 :: a18 :: a19 :: a20 :: a21 :: a22 :: a23 :: a :: σ) H Q = Q (a0 :: a1 :: a2 :: a3 :: a4 :: a5 :: a6 :: a7 :: a8 :: a9 :: a10 :: a11 :: a12 :: a13 :: a14 :: a15 :: a16 :: a17 :: a18 :: a19 :: a20 :: a21 :: a22 :: a23 :: some v :: σ) H := rfl
theorem tVar_25 {a0 a1 a2 a3 a4 a5 a6 a7 a8 a9 a10 a11 a12 a13 a14 a15 a16 a17 a18 a19 a20 a21 a22 a23 a24 : Option V} {v : V} {σ : St} {H : Hp} {Q : VK} : tVar 25 (a0 :: a1 :: a2 :: a3 :: a4 :: a5 :: a6 :: a7 :: a8 :: a9 :: a10 :: a11 :: a12 :: a13 :: a14 :: a15 :: a16 :: a17 :: a18 :: a19 :: a20 :: a21 :: a22 :: a23 :: a24 :: some v :: σ) H Q = Q v H := propext ⟨fun ⟨_, e, q⟩ => by cases e; exact q, fun q => ⟨v, rfl, q⟩⟩
theorem gName_25 {a0 a1 a2 a3 a4 a5 a6 a7 a8 a9 a10 a11 a12 a13 a14 a15 a16 a17 a18 a19 a20 a21 a22 a23 a24 : Option V} {a : Option V} {v : V} {σ : St} {H : Hp} {Q : St → Hp → Prop} : gName 25 v (a0 :: a1 :: a2 :: a3 :: a4 :: a5 :: a6 :: a7 :: a8 :: a9 :: a10 :: a11 :: a12 :: a13 :: a14 :: a15 :: a16 :: a17 :: a18 :: a19 :: a20 :: a21 :: a22 :: a23 :: a24 :: a :: σ) H Q = Q (a0 :: a1 :: a2 :: a3 :: a4 :: a5 :: a6 :: a7 :: a8 :: a9 :: a10 :: a11 :: a12 :: a13 :: a14 :: a15 :: a16 :: a17 :: a18 :: a19 :: a20 :: a21 :: a22 :: a23 :: a24 :: some v :: σ) H := rfl

def optK {α : Type} : Option α → (α → Prop) → Prop
  | some x, k => k x
  | none, _ => False
theorem optK_some {α : Type} (x : α) (k : α → Prop) : optK (some x) k = k x := rfl
theorem optK_ex {α : Type} {o : Option α} {k : α → Prop} (h : optK o k) : ∃ x, o = some x ∧ k x := by
  cases o with
  | none => exact h.elim
  | some x => exact ⟨x, rfl, h⟩
def seqO : HO → Option (List V)
  | .lst xs => some xs
  | .tup xs => some xs
  | .frz _ (.lst xs) => some xs
  | _ => none
def lstO : HO → Option (List V)
  | .lst xs => some xs
  | _ => none
def tupO : HO → Option (List V)
  | .tup xs => some xs
  | _ => none
def itemsAt (H : Hp) (p : Addr) : Option (List V) := (H p).bind seqO
def lstAt (H : Hp) (p : Addr) : Option (List V) := (H p).bind lstO
def tupAt (H : Hp) (p : Addr) : Option (List V) := (H p).bind tupO
theorem seqO_lst (xs : List V) : seqO (.lst xs) = some xs := rfl
theorem seqO_tup (xs : List V) : seqO (.tup xs) = some xs := rfl
theorem seqO_frz (o : Obj) (xs : List V) : seqO (.frz o (.lst xs)) = some xs := rfl
theorem lstO_lst (xs : List V) : lstO (.lst xs) = some xs := rfl
theorem tupO_tup (xs : List V) : tupO (.tup xs) = some xs := rfl
theorem bind_some' {α β : Type} (x : α) (f : α → Option β) : (some x).bind f = f x := rfl
abbrev Ext (H H' : Hp) : Prop := (∀ a, (H a).isSome = true → H' a = H a) ∧ ∀ (K : PySem.W.Frag) a xs, SqL K H a xs → SqL K H' a xs
theorem upd_old {H : Hp} {a b : Addr} {o : HO} (ha : H a = none) (hb : (H b).isSome = true) : upd H a o b = H b := by
  apply upd_ne; rintro rfl; rw [ha] at hb; cases hb

def kOp' (r : R2) (x : V) (Q : VK) : VK := fun y H => r x y H Q
theorem m_kOp' (r : R2) (x y : V) (H : Hp) (Q : VK) : (kOp' r x Q y H) = (r x y H Q) := rfl
def kOp (r : R2) (tb : TE) (σ : St) (Q : VK) : VK := fun x H => tb σ H (kOp' r x Q)
theorem m_kOp (r : R2) (tb : TE) (σ : St) (Q : VK) (x : V) (H : Hp) : (kOp r tb σ Q x H) = (tb σ H (kOp' r x Q)) := rfl
theorem m_tOp (r : R2) (ta tb : TE) (σ : St) (H : Hp) (Q : VK) : (tOp r ta tb σ H Q) = (ta σ H (kOp r tb σ Q)) := rfl
theorem m_tC (v : V) (σ : St) (H : Hp) (Q : VK) : (tC v σ H Q) = (Q v H) := rfl
def kUn (r : V → Hp → VK → Prop) (Q : VK) : VK := fun x H => r x H Q
theorem m_kUn (r : V → Hp → VK → Prop) (Q : VK) (x : V) (H : Hp) : (kUn r Q x H) = (r x H Q) := rfl
theorem m_tUn (r : V → Hp → VK → Prop) (ta : TE) (σ : St) (H : Hp) (Q : VK) : (tUn r ta σ H Q) = (ta σ H (kUn r Q)) := rfl
theorem m_rI0 (g : Int → Int → V) (i j : Int) (H : Hp) (Q : VK) : rI0 g (.int i) (.int j) H Q = Q (g i j) H := propext ⟨fun ⟨_, _, e, e', q⟩ => by cases e; cases e'; exact q, fun q => ⟨i, j, rfl, rfl, q⟩⟩
theorem m_rI (C : Int → Int → Prop) (g : Int → Int → V) (i j : Int) (H : Hp) (Q : VK) : rI C g (.int i) (.int j) H Q = (C i j ∧ Q (g i j) H) := propext ⟨fun ⟨_, _, e, e', q⟩ => by cases e; cases e'; exact q, fun q => ⟨i, j, rfl, rfl, q⟩⟩
theorem m_rU (g : Int → V) (i : Int) (H : Hp) (Q : VK) : rU g (.int i) H Q = Q (g i) H := propext ⟨fun ⟨_, e, q⟩ => by cases e; exact q, fun q => ⟨i, rfl, q⟩⟩
theorem m_rEq_int (i j : Int) (H : Hp) (Q : VK) : rEq (.int i) (.int j) H Q = Q (.bl (decide (i = j))) H := by
  have e : decide ((.int i : V) = .int j) = decide (i = j) := by simp
  unfold rEq; rw [e]; exact propext ⟨fun h => h.2, fun h => ⟨rfl, h⟩⟩
theorem m_rNe_int (i j : Int) (H : Hp) (Q : VK) : rNe (.int i) (.int j) H Q = Q (.bl (!decide (i = j))) H := by
  have e : decide ((.int i : V) = .int j) = decide (i = j) := by simp
  unfold rNe; rw [e]; exact propext ⟨fun h => h.2, fun h => ⟨rfl, h⟩⟩
theorem m_rEq_bl (i j : Bool) (H : Hp) (Q : VK) : rEq (.bl i) (.bl j) H Q = Q (.bl (decide (i = j))) H := by
  have e : decide ((.bl i : V) = .bl j) = decide (i = j) := by simp
  unfold rEq; rw [e]; exact propext ⟨fun h => h.2, fun h => ⟨rfl, h⟩⟩
theorem m_rNe_bl (i j : Bool) (H : Hp) (Q : VK) : rNe (.bl i) (.bl j) H Q = Q (.bl (!decide (i = j))) H := by
  have e : decide ((.bl i : V) = .bl j) = decide (i = j) := by simp
  unfold rNe; rw [e]; exact propext ⟨fun h => h.2, fun h => ⟨rfl, h⟩⟩
theorem m_rEq_str (i j : Str) (H : Hp) (Q : VK) : rEq (.str i) (.str j) H Q = Q (.bl (decide (i = j))) H := by
  have e : decide ((.str i : V) = .str j) = decide (i = j) := by simp
  unfold rEq; rw [e]; exact propext ⟨fun h => h.2, fun h => ⟨rfl, h⟩⟩
theorem m_rNe_str (i j : Str) (H : Hp) (Q : VK) : rNe (.str i) (.str j) H Q = Q (.bl (!decide (i = j))) H := by
  have e : decide ((.str i : V) = .str j) = decide (i = j) := by simp
  unfold rNe; rw [e]; exact propext ⟨fun h => h.2, fun h => ⟨rfl, h⟩⟩

def rIsN : R2 := fun x y H Q => y = .non ∧ Q (.bl (decide (x = .non))) H
def rNotN : R2 := fun x y H Q => y = .non ∧ Q (.bl (!decide (x = .non))) H
def oV : Option Int → V
  | none => .non
  | some i => .int i
theorem oV_none : oV none = .non := rfl
theorem oV_some (i : Int) : oV (some i) = .int i := rfl

theorem m_rIsN_non (H : Hp) (Q : VK) : rIsN (.non) .non H Q = Q (.bl true) H := propext ⟨fun h => h.2, fun h => ⟨rfl, h⟩⟩
theorem m_rNotN_non (H : Hp) (Q : VK) : rNotN (.non) .non H Q = Q (.bl false) H := propext ⟨fun h => h.2, fun h => ⟨rfl, h⟩⟩
theorem m_rIsN_int (i : Int) (H : Hp) (Q : VK) : rIsN (.int i) .non H Q = Q (.bl false) H := propext ⟨fun h => h.2, fun h => ⟨rfl, h⟩⟩
theorem m_rNotN_int (i : Int) (H : Hp) (Q : VK) : rNotN (.int i) .non H Q = Q (.bl true) H := propext ⟨fun h => h.2, fun h => ⟨rfl, h⟩⟩
theorem m_rIsN_ref (i : Addr) (H : Hp) (Q : VK) : rIsN (.ref i) .non H Q = Q (.bl false) H := propext ⟨fun h => h.2, fun h => ⟨rfl, h⟩⟩
theorem m_rNotN_ref (i : Addr) (H : Hp) (Q : VK) : rNotN (.ref i) .non H Q = Q (.bl true) H := propext ⟨fun h => h.2, fun h => ⟨rfl, h⟩⟩
theorem m_rIsN_bl (i : Bool) (H : Hp) (Q : VK) : rIsN (.bl i) .non H Q = Q (.bl false) H := propext ⟨fun h => h.2, fun h => ⟨rfl, h⟩⟩
theorem m_rNotN_bl (i : Bool) (H : Hp) (Q : VK) : rNotN (.bl i) .non H Q = Q (.bl true) H := propext ⟨fun h => h.2, fun h => ⟨rfl, h⟩⟩
theorem m_rIsN_str (i : Str) (H : Hp) (Q : VK) : rIsN (.str i) .non H Q = Q (.bl false) H := propext ⟨fun h => h.2, fun h => ⟨rfl, h⟩⟩
theorem m_rNotN_str (i : Str) (H : Hp) (Q : VK) : rNotN (.str i) .non H Q = Q (.bl true) H := propext ⟨fun h => h.2, fun h => ⟨rfl, h⟩⟩
def kTest (Q : Bool → Hp → Prop) : VK := fun x H => ∃ k, x = .bl k ∧ Q k H
theorem m_kTest (Q : Bool → Hp → Prop) (k : Bool) (H : Hp) : kTest Q (.bl k) H = Q k H := propext ⟨fun ⟨_, e, q⟩ => by cases e; exact q, fun q => ⟨k, rfl, q⟩⟩
theorem m_tTest (t : TE) (σ : St) (H : Hp) (Q : Bool → Hp → Prop) : (tTest t σ H Q) = (t σ H (kTest Q)) := rfl
theorem m_tB (t : TE) (σ : St) (H : Hp) (Q : Bool → Hp → Prop) : (tB t σ H Q) = (t σ H (kTest Q)) := rfl
def kNot (Q : Bool → Hp → Prop) : Bool → Hp → Prop := fun c H => Q (!c) H
theorem m_kNot (Q : Bool → Hp → Prop) (c : Bool) (H : Hp) : (kNot Q c H) = (Q (!c) H) := rfl
theorem m_tNot (t : TT) (σ : St) (H : Hp) (Q : Bool → Hp → Prop) : (tNot t σ H Q) = (t σ H (kNot Q)) := rfl
def kAnd (u : TT) (σ : St) (Q : Bool → Hp → Prop) : Bool → Hp → Prop := fun c H => if c = true then u σ H Q else Q false H
theorem m_kAnd (u : TT) (σ : St) (Q : Bool → Hp → Prop) (c : Bool) (H : Hp) : (kAnd u σ Q c H) = (if c = true then u σ H Q else Q false H) := rfl
theorem m_tAnd (t u : TT) (σ : St) (H : Hp) (Q : Bool → Hp → Prop) : (tAnd t u σ H Q) = (t σ H (kAnd u σ Q)) := rfl
def kOr (u : TT) (σ : St) (Q : Bool → Hp → Prop) : Bool → Hp → Prop := fun c H => if c = true then Q true H else u σ H Q
theorem m_kOr (u : TT) (σ : St) (Q : Bool → Hp → Prop) (c : Bool) (H : Hp) : (kOr u σ Q c H) = (if c = true then Q true H else u σ H Q) := rfl
theorem m_tOr (t u : TT) (σ : St) (H : Hp) (Q : Bool → Hp → Prop) : (tOr t u σ H Q) = (t σ H (kOr u σ Q)) := rfl
def kAndV (tb : TE) (σ : St) (Q : VK) : VK := fun x H => ∃ c, x = .bl c ∧ if c = true then tb σ H Q else Q (.bl false) H
theorem m_kAndV (tb : TE) (σ : St) (Q : VK) (c : Bool) (H : Hp) : kAndV tb σ Q (.bl c) H = (if c = true then tb σ H Q else Q (.bl false) H) := propext ⟨fun ⟨_, e, q⟩ => by cases e; exact q, fun q => ⟨c, rfl, q⟩⟩
theorem m_tAndV (ta tb : TE) (σ : St) (H : Hp) (Q : VK) : (tAndV ta tb σ H Q) = (ta σ H (kAndV tb σ Q)) := rfl
def kOrV (tb : TE) (σ : St) (Q : VK) : VK := fun x H => ∃ c, x = .bl c ∧ if c = true then Q (.bl true) H else tb σ H Q
theorem m_kOrV (tb : TE) (σ : St) (Q : VK) (c : Bool) (H : Hp) : kOrV tb σ Q (.bl c) H = (if c = true then Q (.bl true) H else tb σ H Q) := propext ⟨fun ⟨_, e, q⟩ => by cases e; exact q, fun q => ⟨c, rfl, q⟩⟩
theorem m_tOrV (ta tb : TE) (σ : St) (H : Hp) (Q : VK) : (tOrV ta tb σ H Q) = (ta σ H (kOrV tb σ Q)) := rfl
def kNotV (Q : VK) : VK := fun x H => ∃ c, x = .bl c ∧ Q (.bl (!c)) H
theorem m_kNotV (Q : VK) (c : Bool) (H : Hp) : kNotV Q (.bl c) H = Q (.bl (!c)) H := propext ⟨fun ⟨_, e, q⟩ => by cases e; exact q, fun q => ⟨c, rfl, q⟩⟩
theorem m_tNotV (ta : TE) (σ : St) (H : Hp) (Q : VK) : (tNotV ta σ H Q) = (ta σ H (kNotV Q)) := rfl
def kIfE (ta tb : TE) (σ : St) (Q : VK) : Bool → Hp → Prop := fun c H => if c = true then ta σ H Q else tb σ H Q
theorem m_kIfE (ta tb : TE) (σ : St) (Q : VK) (c : Bool) (H : Hp) : (kIfE ta tb σ Q c H) = (if c = true then ta σ H Q else tb σ H Q) := rfl
theorem m_tIf (t : TT) (ta tb : TE) (σ : St) (H : Hp) (Q : VK) : (tIf t ta tb σ H Q) = (t σ H (kIfE ta tb σ Q)) := rfl
def kCh3 (r' : R2) (y : V) (Q : VK) : VK := fun w H => r' y w H Q
theorem m_kCh3 (r' : R2) (y w : V) (Q : VK) (H : Hp) : (kCh3 r' y Q w H) = (r' y w H Q) := rfl
def kCh2 (r' : R2) (tc : TE) (σ : St) (y : V) (Q : VK) : VK := fun z H => ∃ k, z = .bl k ∧ (if k = true then tc σ H (kCh3 r' y Q) else Q (.bl false) H)
theorem m_kCh2 (r' : R2) (tc : TE) (σ : St) (y : V) (Q : VK) (k : Bool) (H : Hp) : kCh2 r' tc σ y Q (.bl k) H = (if k = true then tc σ H (kCh3 r' y Q) else Q (.bl false) H) := propext ⟨fun ⟨_, e, q⟩ => by cases e; exact q, fun q => ⟨k, rfl, q⟩⟩
def kCh1 (r r' : R2) (tc : TE) (σ : St) (x : V) (Q : VK) : VK := fun y H => r x y H (kCh2 r' tc σ y Q)
theorem m_kCh1 (r r' : R2) (tc : TE) (σ : St) (x y : V) (Q : VK) (H : Hp) : (kCh1 r r' tc σ x Q y H) = (r x y H (kCh2 r' tc σ y Q)) := rfl
def kCh0 (r r' : R2) (tb tc : TE) (σ : St) (Q : VK) : VK := fun x H => tb σ H (kCh1 r r' tc σ x Q)
theorem m_kCh0 (r r' : R2) (tb tc : TE) (σ : St) (Q : VK) (x : V) (H : Hp) : (kCh0 r r' tb tc σ Q x H) = (tb σ H (kCh1 r r' tc σ x Q)) := rfl
theorem m_tChain (r r' : R2) (ta tb tc : TE) (σ : St) (H : Hp) (Q : VK) : (tChain r r' ta tb tc σ H Q) = (ta σ H (kCh0 r r' tb tc σ Q)) := rfl
theorem m_tNil (σ : St) (H : Hp) (Q : List V → Hp → Prop) : (tNil σ H Q) = (Q [] H) := rfl
def kCons' (x : V) (Q : List V → Hp → Prop) : List V → Hp → Prop := fun xs H => Q (x :: xs) H
theorem m_kCons' (x : V) (Q : List V → Hp → Prop) (xs : List V) (H : Hp) : (kCons' x Q xs H) = (Q (x :: xs) H) := rfl
def kCons (tr : TA) (σ : St) (Q : List V → Hp → Prop) : VK := fun x H => tr σ H (kCons' x Q)
theorem m_kCons (tr : TA) (σ : St) (Q : List V → Hp → Prop) (x : V) (H : Hp) : (kCons tr σ Q x H) = (tr σ H (kCons' x Q)) := rfl
theorem m_tCons (ta : TE) (tr : TA) (σ : St) (H : Hp) (Q : List V → Hp → Prop) : (tCons ta tr σ H Q) = (ta σ H (kCons tr σ Q)) := rfl
def kTup (Q : VK) : List V → Hp → Prop := fun xs H => xs.length ≤ sizeLine ∧ ∀ p, H p = none → Q (.ref p) (upd H p (.tup xs))
theorem m_kTup (Q : VK) (xs : List V) (H : Hp) : (kTup Q xs H) = (xs.length ≤ sizeLine ∧ ∀ p, H p = none → Q (.ref p) (upd H p (.tup xs))) := rfl
theorem m_tTup (t : TA) (σ : St) (H : Hp) (Q : VK) : (tTup t σ H Q) = (t σ H (kTup Q)) := rfl
def kLst (Q : VK) : List V → Hp → Prop := fun xs H => xs.length ≤ sizeLine ∧ ∀ p, H p = none → Q (.ref p) (upd H p (.lst xs))
theorem m_kLst (Q : VK) (xs : List V) (H : Hp) : (kLst Q xs H) = (xs.length ≤ sizeLine ∧ ∀ p, H p = none → Q (.ref p) (upd H p (.lst xs))) := rfl
theorem m_tLst (t : TA) (σ : St) (H : Hp) (Q : VK) : (tLst t σ H Q) = (t σ H (kLst Q)) := rfl
def kCall (sp : Sp) (dvs : List V) (E : XK) (Q : VK) : List V → Hp → Prop := fun vs H => sp (vs ++ dvs) H Q E
theorem m_kCall_0 (sp : Sp) (dvs : List V) (E : XK) (Q : VK) (H : Hp) : kCall sp dvs E Q [] H = sp (dvs) H Q E := rfl
theorem m_kCall_1 (v0 : V) (sp : Sp) (dvs : List V) (E : XK) (Q : VK) (H : Hp) : kCall sp dvs E Q [v0] H = sp (v0 :: dvs) H Q E := rfl
theorem m_kCall_2 (v0 v1 : V) (sp : Sp) (dvs : List V) (E : XK) (Q : VK) (H : Hp) : kCall sp dvs E Q [v0, v1] H = sp (v0 :: v1 :: dvs) H Q E := rfl
theorem m_kCall_3 (v0 v1 v2 : V) (sp : Sp) (dvs : List V) (E : XK) (Q : VK) (H : Hp) : kCall sp dvs E Q [v0, v1, v2] H = sp (v0 :: v1 :: v2 :: dvs) H Q E := rfl
theorem m_kCall_4 (v0 v1 v2 v3 : V) (sp : Sp) (dvs : List V) (E : XK) (Q : VK) (H : Hp) : kCall sp dvs E Q [v0, v1, v2, v3] H = sp (v0 :: v1 :: v2 :: v3 :: dvs) H Q E := rfl
theorem m_kCall_5 (v0 v1 v2 v3 v4 : V) (sp : Sp) (dvs : List V) (E : XK) (Q : VK) (H : Hp) : kCall sp dvs E Q [v0, v1, v2, v3, v4] H = sp (v0 :: v1 :: v2 :: v3 :: v4 :: dvs) H Q E := rfl
theorem m_kCall_6 (v0 v1 v2 v3 v4 v5 : V) (sp : Sp) (dvs : List V) (E : XK) (Q : VK) (H : Hp) : kCall sp dvs E Q [v0, v1, v2, v3, v4, v5] H = sp (v0 :: v1 :: v2 :: v3 :: v4 :: v5 :: dvs) H Q E := rfl
theorem m_kCall_7 (v0 v1 v2 v3 v4 v5 v6 : V) (sp : Sp) (dvs : List V) (E : XK) (Q : VK) (H : Hp) : kCall sp dvs E Q [v0, v1, v2, v3, v4, v5, v6] H = sp (v0 :: v1 :: v2 :: v3 :: v4 :: v5 :: v6 :: dvs) H Q E := rfl
theorem m_kCall_8 (v0 v1 v2 v3 v4 v5 v6 v7 : V) (sp : Sp) (dvs : List V) (E : XK) (Q : VK) (H : Hp) : kCall sp dvs E Q [v0, v1, v2, v3, v4, v5, v6, v7] H = sp (v0 :: v1 :: v2 :: v3 :: v4 :: v5 :: v6 :: v7 :: dvs) H Q E := rfl
theorem m_tCall (sp : Sp) (dvs : List V) (E : XK) (t : TA) (σ : St) (H : Hp) (Q : VK) : (tCall sp dvs E t σ H Q) = (t σ H (kCall sp dvs E Q)) := rfl
def kCB (r : List V → Hp → VK → Prop) (Q : VK) : List V → Hp → Prop := fun vs H => r vs H Q
theorem m_kCB (r : List V → Hp → VK → Prop) (Q : VK) (vs : List V) (H : Hp) : (kCB r Q vs H) = (r vs H Q) := rfl
theorem m_tCB (r : List V → Hp → VK → Prop) (t : TA) (σ : St) (H : Hp) (Q : VK) : (tCB r t σ H Q) = (t σ H (kCB r Q)) := rfl
theorem m_tNext (nx : St → Hp → Prop) (rt : VK) (bk ct : St → Hp → Prop) (σ : St) (H : Hp) : (tNext ⟨nx, rt, bk, ct⟩ σ H) = (nx σ H) := rfl
theorem m_tSeq (t u : TS) (nx : St → Hp → Prop) (rt : VK) (bk ct : St → Hp → Prop) (σ : St) (H : Hp) : (tSeq t u ⟨nx, rt, bk, ct⟩ σ H) = (t ⟨u ⟨nx, rt, bk, ct⟩, rt, bk, ct⟩ σ H) := rfl
theorem m_tBreak (nx : St → Hp → Prop) (rt : VK) (bk ct : St → Hp → Prop) (σ : St) (H : Hp) : (tBreak ⟨nx, rt, bk, ct⟩ σ H) = (bk σ H) := rfl
theorem m_tCont (nx : St → Hp → Prop) (rt : VK) (bk ct : St → Hp → Prop) (σ : St) (H : Hp) : (tCont ⟨nx, rt, bk, ct⟩ σ H) = (ct σ H) := rfl
theorem m_tRet (te : TE) (nx : St → Hp → Prop) (rt : VK) (bk ct : St → Hp → Prop) (σ : St) (H : Hp) : (tRet te ⟨nx, rt, bk, ct⟩ σ H) = (te σ H rt) := rfl
theorem m_tRetN (nx : St → Hp → Prop) (rt : VK) (bk ct : St → Hp → Prop) (σ : St) (H : Hp) : (tRetN ⟨nx, rt, bk, ct⟩ σ H) = (rt .non H) := rfl
def kDrop (nx : St → Hp → Prop) (σ : St) : VK := fun x H => nx σ H
theorem m_kDrop (nx : St → Hp → Prop) (σ : St) (x : V) (H : Hp) : (kDrop nx σ x H) = (nx σ H) := rfl
theorem m_tDrop (te : TE) (nx : St → Hp → Prop) (rt : VK) (bk ct : St → Hp → Prop) (σ : St) (H : Hp) : (tDrop te ⟨nx, rt, bk, ct⟩ σ H) = (te σ H (kDrop nx σ)) := rfl
def kIfS (t u : TS) (D : Ends) (σ : St) : Bool → Hp → Prop := fun b H => if b = true then t D σ H else u D σ H
theorem m_kIfS (t u : TS) (D : Ends) (σ : St) (b : Bool) (H : Hp) : (kIfS t u D σ b H) = (if b = true then t D σ H else u D σ H) := rfl
theorem m_tIfS (c : TT) (t u : TS) (D : Ends) (σ : St) (H : Hp) : (tIfS c t u D σ H) = (c σ H (kIfS t u D σ)) := rfl
def kAsg (g : TG) (σ : St) (nx : St → Hp → Prop) : VK := fun x H => g x σ H nx
theorem m_kAsg (g : TG) (σ : St) (nx : St → Hp → Prop) (x : V) (H : Hp) : (kAsg g σ nx x H) = (g x σ H nx) := rfl
theorem m_tAsg (te : TE) (g : TG) (nx : St → Hp → Prop) (rt : VK) (bk ct : St → Hp → Prop) (σ : St) (H : Hp) : (tAsg te g ⟨nx, rt, bk, ct⟩ σ H) = (te σ H (kAsg g σ nx)) := rfl
def kPar (i j : Nat) (σ : St) (nx : St → Hp → Prop) : List V → Hp → Prop := fun vs H => ∃ v w, vs = [v, w] ∧ nx ((σ.set i (some v)).set j (some w)) H
theorem m_kPar (i j : Nat) (σ : St) (nx : St → Hp → Prop) (v w : V) (H : Hp) : kPar i j σ nx [v, w] H = gName i v σ H (fun σ' H' => gName j w σ' H' nx) := propext ⟨fun ⟨_, _, e, q⟩ => by cases e; exact q, fun q => ⟨v, w, rfl, q⟩⟩
theorem m_tPar (i j : Nat) (ta : TA) (nx : St → Hp → Prop) (rt : VK) (bk ct : St → Hp → Prop) (σ : St) (H : Hp) : (tPar i j ta ⟨nx, rt, bk, ct⟩ σ H) = (ta σ H (kPar i j σ nx)) := rfl
theorem m_gNil (σ : St) (H : Hp) (Q : St → Hp → Prop) : gNil [] σ H Q = Q σ H := propext ⟨fun h => h.2, fun h => ⟨rfl, h⟩⟩
def kGs (u : TGs) (r : List V) (Q : St → Hp → Prop) : St → Hp → Prop := fun σ' H' => u r σ' H' Q
theorem m_kGs (u : TGs) (r : List V) (Q : St → Hp → Prop) (σ : St) (H : Hp) : (kGs u r Q σ H) = (u r σ H Q) := rfl
theorem m_gCons (t : TG) (u : TGs) (v : V) (r : List V) (σ : St) (H : Hp) (Q : St → Hp → Prop) : gCons t u (v :: r) σ H Q = t v σ H (kGs u r Q) := propext ⟨fun ⟨_, _, e, q⟩ => by cases e; exact q, fun q => ⟨v, r, rfl, q⟩⟩
end L2

set_option Elab.async false
set_option linter.all false
set_option maxRecDepth 100000
set_option maxHeartbeats 4000000
namespace L2
open PySem PySem.Spec PyProof.Rows
/-! ### rules whose reading the machine can run -/
section
variable {X : Cx}
theorem OpR.mono {f : Value → Value → Sem Value} {r r' : R2} (h : OpR X f r) (m : ∀ x y H Q, r' x y H Q → r x y H Q) : OpR X f r' := fun pins s σ H x y v u Q I rx ry hq => h pins s σ H x y v u Q I rx ry (m _ _ _ _ hq)
theorem CallR.mono {f : Value} {r r' : List V → Hp → VK → Prop} (h : CallR X f r) (m : ∀ xs H Q, r' xs H Q → r xs H Q) : CallR X f r' := fun pins s σ H xs us Q I rx hq => h pins s σ H xs us Q I rx (m _ _ _ hq)
theorem IxR.mono {r r' : R2} (h : IxR X r) (m : ∀ x y H Q, r' x y H Q → r x y H Q) : IxR X r' := fun a b pins s σ H x y v u Q I rx ry hq => h a b pins s σ H x y v u Q I rx ry (m _ _ _ _ hq)
theorem SlR.mono {r r' : V → Option Int → Option Int → Hp → VK → Prop} (h : SlR X r) (m : ∀ x lo hi H Q, r' x lo hi H Q → r x lo hi H Q) : SlR X r' := fun pins s σ H x v vl vu lo hi sl Q I rx a b c hq => h pins s σ H x v vl vu lo hi sl Q I rx a b c (m _ _ _ _ _ hq)
theorem PG.mono {tg : Expr} {g g' : TG} (h : PG X tg g) (m : ∀ v σ H Q, g' v σ H Q → g v σ H Q) : PG X tg g' := fun pins s σ H v u Q I r hq => h pins s σ H v u Q I r (m _ _ _ _ hq)
theorem items_seq {K : PySem.W.Frag} {H : Hp} {p : Addr} {ys : List V} (h : itemsAt H p = some ys) : SqL K H p ys ∨ SqT K H p ys := by
  unfold itemsAt at h
  cases e : H p with
  | none => rw [e] at h; cases h
  | some o =>
    rw [e] at h
    have h' : seqO o = some ys := h
    cases o with
    | lst xs => cases h'; exact .inl (SqL.of e)
    | tup xs => cases h'; exact .inr (SqT.of e)
    | frz ob u =>
      cases u with
      | lst xs => cases h'; exact .inl (.inl (.inr ⟨ob, e⟩))
      | _ => cases h'
    | _ => cases h'
theorem lst_of {H : Hp} {p : Addr} {ys : List V} (h : lstAt H p = some ys) : H p = some (.lst ys) := by
  unfold lstAt at h
  cases e : H p with
  | none => rw [e] at h; cases h
  | some o =>
    rw [e] at h
    have h' : lstO o = some ys := h
    cases o with
    | lst xs => cases h'; rfl
    | _ => cases h'
theorem tup_of {H : Hp} {p : Addr} {ys : List V} (h : tupAt H p = some ys) : H p = some (.tup ys) := by
  unfold tupAt at h
  cases e : H p with
  | none => rw [e] at h; cases h
  | some o =>
    rw [e] at h
    have h' : tupO o = some ys := h
    cases o with
    | tup xs => cases h'; rfl
    | _ => cases h'
/-! len -/
def kLen (H : Hp) (Q : VK) : List V → Prop := fun ys => Q (.int ys.length) H
theorem m_kLen (H : Hp) (Q : VK) (ys : List V) : kLen H Q ys = Q (.int ys.length) H := rfl
def qLen (xs : List V) (H : Hp) (Q : VK) : Prop := match xs with
  | [.ref p] => optK (itemsAt H p) (kLen H Q)
  | [.str z] => z.length ≤ sizeLine ∧ Q (.int z.length) H
  | _ => False
theorem m_qLen (p : Addr) (H : Hp) (Q : VK) : qLen [.ref p] H Q = optK (itemsAt H p) (kLen H Q) := rfl
theorem m_qLenS (z : Str) (H : Hp) (Q : VK) : qLen [.str z] H Q = (z.length ≤ sizeLine ∧ Q (.int z.length) H) := rfl
/-! an item -/
def kIx' (H : Hp) (Q : VK) : V → Prop := fun v => Q v H
theorem m_kIx' (H : Hp) (Q : VK) (v : V) : kIx' H Q v = Q v H := rfl
def kIx (i : Int) (H : Hp) (Q : VK) : List V → Prop := fun ys => optK (atI ys i) (kIx' H Q)
theorem m_kIx (i : Int) (H : Hp) (Q : VK) (ys : List V) : kIx i H Q ys = optK (atI ys i) (kIx' H Q) := rfl
def qIx : R2 := fun x y H Q => match x, y with
  | .ref p, .int i => optK (itemsAt H p) (kIx i H Q)
  | _, _ => False
theorem m_qIx (p : Addr) (i : Int) (H : Hp) (Q : VK) : qIx (.ref p) (.int i) H Q = optK (itemsAt H p) (kIx i H Q) := rfl
theorem ix_q : IxR X qIx := by
  refine (ix_list.or ix_tup).mono fun x y H Q h => ?_
  unfold qIx at h
  split at h
  · rename_i p i
    obtain ⟨ys, e, q⟩ := optK_ex h
    obtain ⟨v, e2, q2⟩ := optK_ex q
    rcases items_seq (K := X.K) e with z | z
    · exact .inl ⟨p, ys, i, v, rfl, rfl, z, e2, q2⟩
    · exact .inr ⟨p, ys, i, v, rfl, rfl, z, e2, q2⟩
  · exact h.elim
theorem atI_0 {α : Type} (a : α) (xs : List α) : atI (a :: xs) 0 = some a := atI_nat (j := 0) rfl
theorem atI_1 {α : Type} (a b : α) (xs : List α) : atI (a :: b :: xs) 1 = some b := atI_nat (j := 1) rfl
theorem atI_2 {α : Type} (a b c : α) (xs : List α) : atI (a :: b :: c :: xs) 2 = some c := atI_nat (j := 2) rfl
theorem atI_3 {α : Type} (a b c d : α) (xs : List α) : atI (a :: b :: c :: d :: xs) 3 = some d := atI_nat (j := 3) rfl
theorem atI_4 {α : Type} (a b c d e : α) (xs : List α) : atI (a :: b :: c :: d :: e :: xs) 4 = some e := atI_nat (j := 4) rfl
theorem atI_5 {α : Type} (a b c d e f : α) (xs : List α) : atI (a :: b :: c :: d :: e :: f :: xs) 5 = some f := atI_nat (j := 5) rfl
theorem atI_6 {α : Type} (a b c d e f g : α) (xs : List α) : atI (a :: b :: c :: d :: e :: f :: g :: xs) 6 = some g := atI_nat (j := 6) rfl
theorem atI_7 {α : Type} (a b c d e f g h : α) (xs : List α) : atI (a :: b :: c :: d :: e :: f :: g :: h :: xs) 7 = some h := atI_nat (j := 7) rfl
theorem atI_8 {α : Type} (a b c d e f g h i : α) (xs : List α) : atI (a :: b :: c :: d :: e :: f :: g :: h :: i :: xs) 8 = some i := atI_nat (j := 8) rfl
theorem atI_9 {α : Type} (a b c d e f g h i j : α) (xs : List α) : atI (a :: b :: c :: d :: e :: f :: g :: h :: i :: j :: xs) 9 = some j := atI_nat (j := 9) rfl
theorem atI_10 {α : Type} (a b c d e f g h i j k : α) (xs : List α) : atI (a :: b :: c :: d :: e :: f :: g :: h :: i :: j :: k :: xs) 10 = some k := atI_nat (j := 10) rfl
theorem atI_11 {α : Type} (a b c d e f g h i j k l : α) (xs : List α) : atI (a :: b :: c :: d :: e :: f :: g :: h :: i :: j :: k :: l :: xs) 11 = some l := atI_nat (j := 11) rfl
/-! list(..), tuple(..) -/
def kNewL (H : Hp) (Q : VK) : List V → Prop := fun ys => ∀ l, H l = none → Q (.ref l) (upd H l (.lst ys))
theorem m_kNewL (H : Hp) (Q : VK) (ys : List V) : kNewL H Q ys = (∀ l, H l = none → Q (.ref l) (upd H l (.lst ys))) := rfl
def qList (xs : List V) (H : Hp) (Q : VK) : Prop := match xs with
  | [.ref p] => optK (itemsAt H p) (kNewL H Q)
  | _ => False
theorem m_qList (p : Addr) (H : Hp) (Q : VK) : qList [.ref p] H Q = optK (itemsAt H p) (kNewL H Q) := rfl
theorem call_qList : CallR X (.type "list") qList := by
  refine call_list_of.mono fun xs H Q h => ?_
  unfold qList at h
  split at h
  · rename_i p
    obtain ⟨ys, e, q⟩ := optK_ex h
    exact ⟨p, ys, rfl, items_seq e, q⟩
  · exact h.elim
def kTupO (p : Addr) (H : Hp) (Q : VK) : HO → Prop := fun o => match o with
  | .lst ys => ∀ l, H l = none → Q (.ref l) (upd H l (.tup ys))
  | .tup _ => Q (.ref p) H
  | _ => False
theorem m_kTupO_l (p : Addr) (H : Hp) (Q : VK) (ys : List V) : kTupO p H Q (.lst ys) = (∀ l, H l = none → Q (.ref l) (upd H l (.tup ys))) := rfl
theorem m_kTupO_t (p : Addr) (H : Hp) (Q : VK) (ys : List V) : kTupO p H Q (.tup ys) = Q (.ref p) H := rfl
def qTuple (xs : List V) (H : Hp) (Q : VK) : Prop := match xs with
  | [.ref p] => optK (H p) (kTupO p H Q)
  | _ => False
theorem m_qTuple (p : Addr) (H : Hp) (Q : VK) : qTuple [.ref p] H Q = optK (H p) (kTupO p H Q) := rfl
theorem call_qTuple : CallR X (.type "tuple") qTuple := by
  refine call_tuple_of.mono fun xs H Q h => ?_
  unfold qTuple at h
  split at h
  · rename_i p
    obtain ⟨o, e, q⟩ := optK_ex h
    unfold kTupO at q
    split at q
    · rename_i ys; exact ⟨p, ys, rfl, .inl ⟨SqL.of e, q⟩⟩
    · rename_i ys; exact ⟨p, ys, rfl, .inr ⟨SqT.of e, q⟩⟩
    · exact q.elim
  · exact h.elim
/-! abs, max, min, str -/
def qAbs (xs : List V) (H : Hp) (Q : VK) : Prop := match xs with
  | [.int i] => Q (.int (if i < 0 then -i else i)) H
  | _ => False
theorem m_qAbs (i : Int) (H : Hp) (Q : VK) : qAbs [.int i] H Q = Q (.int (if i < 0 then -i else i)) H := rfl
def qMax (xs : List V) (H : Hp) (Q : VK) : Prop := match xs with
  | [.int i, .int j] => Q (.int (if i < j then j else i)) H
  | _ => False
theorem m_qMax (i j : Int) (H : Hp) (Q : VK) : qMax [.int i, .int j] H Q = Q (.int (if i < j then j else i)) H := rfl
def qMin (xs : List V) (H : Hp) (Q : VK) : Prop := match xs with
  | [.int i, .int j] => Q (.int (if j < i then j else i)) H
  | _ => False
theorem m_qMin (i j : Int) (H : Hp) (Q : VK) : qMin [.int i, .int j] H Q = Q (.int (if j < i then j else i)) H := rfl
def qStr (xs : List V) (H : Hp) (Q : VK) : Prop := match xs with
  | [.int i] => i.natAbs.log2 < 1920 ∧ Q (.str (toString i)) H
  | _ => False
theorem m_qStr (i : Int) (H : Hp) (Q : VK) : qStr [.int i] H Q = (i.natAbs.log2 < 1920 ∧ Q (.str (toString i)) H) := rfl
/-! isinstance of a built-in type -/
def tyO : HO → Option String
  | .lst _ => some "list"
  | .tup _ => some "tuple"
  | .frz _ (.lst _) => some "list"
  | .dK _ => some "dict"
  | .dT _ => some "dict"
  | _ => none
theorem tyO_lst (xs : List V) : tyO (.lst xs) = some "list" := rfl
theorem tyO_tup (xs : List V) : tyO (.tup xs) = some "tuple" := rfl
theorem tyO_dK (xs : List (Key × V)) : tyO (.dK xs) = some "dict" := rfl
def tyN (H : Hp) : V → Option String
  | .non => some "NoneType"
  | .bl _ => some "bool"
  | .int _ => some "int"
  | .str _ => some "str"
  | .ref p => (H p).bind tyO
  | _ => none
theorem tyN_non (H : Hp) : tyN H .non = some "NoneType" := rfl
theorem tyN_bl (H : Hp) (b : Bool) : tyN H (.bl b) = some "bool" := rfl
theorem tyN_int (H : Hp) (i : Int) : tyN H (.int i) = some "int" := rfl
theorem tyN_str (H : Hp) (x : Str) : tyN H (.str x) = some "str" := rfl
theorem tyN_ref (H : Hp) (p : Addr) : tyN H (.ref p) = (H p).bind tyO := rfl
theorem tyN_ok {K : PySem.W.Frag} {H : Hp} {x : V} {t : String} (h : tyN H x = some t) : TyOf K H x (.type t) := by
  cases x with
  | non => cases h; exact .non
  | bl b => cases h; exact .bl b
  | int i => cases h; exact .int i
  | str x => cases h; exact .str x
  | ref p =>
    have h' : (H p).bind tyO = some t := h
    cases e : H p with
    | none => rw [e] at h'; cases h'
    | some o =>
      rw [e] at h'
      have h2 : tyO o = some t := h'
      cases o with
      | lst xs => cases h2; exact .lst e
      | tup xs => cases h2; exact .tup e
      | dK xs => cases h2; exact .dK e
      | dT xs => cases h2; exact .dT e
      | frz ob u =>
        cases u with
        | lst xs => cases h2; exact .frz e
        | _ => cases h2
      | _ => cases h2
  | _ => cases h
def kTypes : List String := ["NoneType", "bool", "int", "str", "list", "tuple", "dict"]
def isiN (t n : String) : Bool := t == n || (t == "bool" && n == "int")
theorem kit_isiN (K : PySem.W.Frag) : ∀ t ∈ kTypes, ∀ n ∈ kTypes, PySem.W.kitOne K (.type t) (.type n) = some (isiN t n) := by
  intro t ht n hn
  unfold kTypes at ht hn
  simp only [List.mem_cons, List.not_mem_nil, or_false] at ht hn
  rcases ht with rfl | rfl | rfl | rfl | rfl | rfl | rfl <;> rcases hn with rfl | rfl | rfl | rfl | rfl | rfl | rfl <;> exact kitOne_ty K _ _ _ (by decide +kernel)
def kIsi (n : String) (H : Hp) (Q : VK) : String → Prop := fun t => t ∈ kTypes ∧ Q (.bl (isiN t n)) H
def qIsi (xs : List V) (H : Hp) (Q : VK) : Prop := match xs with
  | [x, .ty n] => n ∈ kTypes ∧ optK (tyN H x) (kIsi n H Q)
  | _ => False
theorem call_qIsi : CallR X (.builtin "isinstance") qIsi := by
  refine call_isi.mono fun xs H Q h => ?_
  unfold qIsi at h
  split at h
  · rename_i x n
    obtain ⟨hn, h⟩ := h
    obtain ⟨t, e, ht, q⟩ := optK_ex h
    exact ⟨x, n, _, _, rfl, tyN_ok e, kit_isiN _ t ht n hn, q⟩
  · exact h.elim
theorem m_qIsi_int (x : V) (H : Hp) (Q : VK) : qIsi [x, .ty "int"] H Q = optK (tyN H x) (kIsi "int" H Q) := by
  unfold qIsi; exact propext ⟨fun h => h.2, fun h => ⟨by decide, h⟩⟩
theorem m_qIsi_bool (x : V) (H : Hp) (Q : VK) : qIsi [x, .ty "bool"] H Q = optK (tyN H x) (kIsi "bool" H Q) := by
  unfold qIsi; exact propext ⟨fun h => h.2, fun h => ⟨by decide, h⟩⟩
theorem m_qIsi_tuple (x : V) (H : Hp) (Q : VK) : qIsi [x, .ty "tuple"] H Q = optK (tyN H x) (kIsi "tuple" H Q) := by
  unfold qIsi; exact propext ⟨fun h => h.2, fun h => ⟨by decide, h⟩⟩
theorem m_qIsi_list (x : V) (H : Hp) (Q : VK) : qIsi [x, .ty "list"] H Q = optK (tyN H x) (kIsi "list" H Q) := by
  unfold qIsi; exact propext ⟨fun h => h.2, fun h => ⟨by decide, h⟩⟩
theorem m_qIsi_str (x : V) (H : Hp) (Q : VK) : qIsi [x, .ty "str"] H Q = optK (tyN H x) (kIsi "str" H Q) := by
  unfold qIsi; exact propext ⟨fun h => h.2, fun h => ⟨by decide, h⟩⟩
theorem m_qIsi_dict (x : V) (H : Hp) (Q : VK) : qIsi [x, .ty "dict"] H Q = optK (tyN H x) (kIsi "dict" H Q) := by
  unfold qIsi; exact propext ⟨fun h => h.2, fun h => ⟨by decide, h⟩⟩
theorem m_kIsi_Nb (H : Hp) (Q : VK) : kIsi "bool" H Q "NoneType" = Q (.bl false) H := propext ⟨fun h => h.2, fun h => ⟨by decide, h⟩⟩
theorem m_kIsi_Ni (H : Hp) (Q : VK) : kIsi "int" H Q "NoneType" = Q (.bl false) H := propext ⟨fun h => h.2, fun h => ⟨by decide, h⟩⟩
theorem m_kIsi_Ns (H : Hp) (Q : VK) : kIsi "str" H Q "NoneType" = Q (.bl false) H := propext ⟨fun h => h.2, fun h => ⟨by decide, h⟩⟩
theorem m_kIsi_Nl (H : Hp) (Q : VK) : kIsi "list" H Q "NoneType" = Q (.bl false) H := propext ⟨fun h => h.2, fun h => ⟨by decide, h⟩⟩
theorem m_kIsi_Nt (H : Hp) (Q : VK) : kIsi "tuple" H Q "NoneType" = Q (.bl false) H := propext ⟨fun h => h.2, fun h => ⟨by decide, h⟩⟩
theorem m_kIsi_Nd (H : Hp) (Q : VK) : kIsi "dict" H Q "NoneType" = Q (.bl false) H := propext ⟨fun h => h.2, fun h => ⟨by decide, h⟩⟩
theorem m_kIsi_bb (H : Hp) (Q : VK) : kIsi "bool" H Q "bool" = Q (.bl true) H := propext ⟨fun h => h.2, fun h => ⟨by decide, h⟩⟩
theorem m_kIsi_bi (H : Hp) (Q : VK) : kIsi "int" H Q "bool" = Q (.bl true) H := propext ⟨fun h => h.2, fun h => ⟨by decide, h⟩⟩
theorem m_kIsi_bs (H : Hp) (Q : VK) : kIsi "str" H Q "bool" = Q (.bl false) H := propext ⟨fun h => h.2, fun h => ⟨by decide, h⟩⟩
theorem m_kIsi_bl (H : Hp) (Q : VK) : kIsi "list" H Q "bool" = Q (.bl false) H := propext ⟨fun h => h.2, fun h => ⟨by decide, h⟩⟩
theorem m_kIsi_bt (H : Hp) (Q : VK) : kIsi "tuple" H Q "bool" = Q (.bl false) H := propext ⟨fun h => h.2, fun h => ⟨by decide, h⟩⟩
theorem m_kIsi_bd (H : Hp) (Q : VK) : kIsi "dict" H Q "bool" = Q (.bl false) H := propext ⟨fun h => h.2, fun h => ⟨by decide, h⟩⟩
theorem m_kIsi_ib (H : Hp) (Q : VK) : kIsi "bool" H Q "int" = Q (.bl false) H := propext ⟨fun h => h.2, fun h => ⟨by decide, h⟩⟩
theorem m_kIsi_ii (H : Hp) (Q : VK) : kIsi "int" H Q "int" = Q (.bl true) H := propext ⟨fun h => h.2, fun h => ⟨by decide, h⟩⟩
theorem m_kIsi_is (H : Hp) (Q : VK) : kIsi "str" H Q "int" = Q (.bl false) H := propext ⟨fun h => h.2, fun h => ⟨by decide, h⟩⟩
theorem m_kIsi_il (H : Hp) (Q : VK) : kIsi "list" H Q "int" = Q (.bl false) H := propext ⟨fun h => h.2, fun h => ⟨by decide, h⟩⟩
theorem m_kIsi_it (H : Hp) (Q : VK) : kIsi "tuple" H Q "int" = Q (.bl false) H := propext ⟨fun h => h.2, fun h => ⟨by decide, h⟩⟩
theorem m_kIsi_id (H : Hp) (Q : VK) : kIsi "dict" H Q "int" = Q (.bl false) H := propext ⟨fun h => h.2, fun h => ⟨by decide, h⟩⟩
theorem m_kIsi_sb (H : Hp) (Q : VK) : kIsi "bool" H Q "str" = Q (.bl false) H := propext ⟨fun h => h.2, fun h => ⟨by decide, h⟩⟩
theorem m_kIsi_si (H : Hp) (Q : VK) : kIsi "int" H Q "str" = Q (.bl false) H := propext ⟨fun h => h.2, fun h => ⟨by decide, h⟩⟩
theorem m_kIsi_ss (H : Hp) (Q : VK) : kIsi "str" H Q "str" = Q (.bl true) H := propext ⟨fun h => h.2, fun h => ⟨by decide, h⟩⟩
theorem m_kIsi_sl (H : Hp) (Q : VK) : kIsi "list" H Q "str" = Q (.bl false) H := propext ⟨fun h => h.2, fun h => ⟨by decide, h⟩⟩
theorem m_kIsi_st (H : Hp) (Q : VK) : kIsi "tuple" H Q "str" = Q (.bl false) H := propext ⟨fun h => h.2, fun h => ⟨by decide, h⟩⟩
theorem m_kIsi_sd (H : Hp) (Q : VK) : kIsi "dict" H Q "str" = Q (.bl false) H := propext ⟨fun h => h.2, fun h => ⟨by decide, h⟩⟩
theorem m_kIsi_lb (H : Hp) (Q : VK) : kIsi "bool" H Q "list" = Q (.bl false) H := propext ⟨fun h => h.2, fun h => ⟨by decide, h⟩⟩
theorem m_kIsi_li (H : Hp) (Q : VK) : kIsi "int" H Q "list" = Q (.bl false) H := propext ⟨fun h => h.2, fun h => ⟨by decide, h⟩⟩
theorem m_kIsi_ls (H : Hp) (Q : VK) : kIsi "str" H Q "list" = Q (.bl false) H := propext ⟨fun h => h.2, fun h => ⟨by decide, h⟩⟩
theorem m_kIsi_ll (H : Hp) (Q : VK) : kIsi "list" H Q "list" = Q (.bl true) H := propext ⟨fun h => h.2, fun h => ⟨by decide, h⟩⟩
theorem m_kIsi_lt (H : Hp) (Q : VK) : kIsi "tuple" H Q "list" = Q (.bl false) H := propext ⟨fun h => h.2, fun h => ⟨by decide, h⟩⟩
theorem m_kIsi_ld (H : Hp) (Q : VK) : kIsi "dict" H Q "list" = Q (.bl false) H := propext ⟨fun h => h.2, fun h => ⟨by decide, h⟩⟩
theorem m_kIsi_tb (H : Hp) (Q : VK) : kIsi "bool" H Q "tuple" = Q (.bl false) H := propext ⟨fun h => h.2, fun h => ⟨by decide, h⟩⟩
theorem m_kIsi_ti (H : Hp) (Q : VK) : kIsi "int" H Q "tuple" = Q (.bl false) H := propext ⟨fun h => h.2, fun h => ⟨by decide, h⟩⟩
theorem m_kIsi_ts (H : Hp) (Q : VK) : kIsi "str" H Q "tuple" = Q (.bl false) H := propext ⟨fun h => h.2, fun h => ⟨by decide, h⟩⟩
theorem m_kIsi_tl (H : Hp) (Q : VK) : kIsi "list" H Q "tuple" = Q (.bl false) H := propext ⟨fun h => h.2, fun h => ⟨by decide, h⟩⟩
theorem m_kIsi_tt (H : Hp) (Q : VK) : kIsi "tuple" H Q "tuple" = Q (.bl true) H := propext ⟨fun h => h.2, fun h => ⟨by decide, h⟩⟩
theorem m_kIsi_td (H : Hp) (Q : VK) : kIsi "dict" H Q "tuple" = Q (.bl false) H := propext ⟨fun h => h.2, fun h => ⟨by decide, h⟩⟩
theorem m_kIsi_db (H : Hp) (Q : VK) : kIsi "bool" H Q "dict" = Q (.bl false) H := propext ⟨fun h => h.2, fun h => ⟨by decide, h⟩⟩
theorem m_kIsi_di (H : Hp) (Q : VK) : kIsi "int" H Q "dict" = Q (.bl false) H := propext ⟨fun h => h.2, fun h => ⟨by decide, h⟩⟩
theorem m_kIsi_ds (H : Hp) (Q : VK) : kIsi "str" H Q "dict" = Q (.bl false) H := propext ⟨fun h => h.2, fun h => ⟨by decide, h⟩⟩
theorem m_kIsi_dl (H : Hp) (Q : VK) : kIsi "list" H Q "dict" = Q (.bl false) H := propext ⟨fun h => h.2, fun h => ⟨by decide, h⟩⟩
theorem m_kIsi_dt (H : Hp) (Q : VK) : kIsi "tuple" H Q "dict" = Q (.bl false) H := propext ⟨fun h => h.2, fun h => ⟨by decide, h⟩⟩
theorem m_kIsi_dd (H : Hp) (Q : VK) : kIsi "dict" H Q "dict" = Q (.bl true) H := propext ⟨fun h => h.2, fun h => ⟨by decide, h⟩⟩
/-! methods of a list -/
def kBM' (r : V → List V → Hp → VK → Prop) (x : V) (Q : VK) : List V → Hp → Prop := fun xs H => r x xs H Q
theorem m_kBM' (r : V → List V → Hp → VK → Prop) (x : V) (Q : VK) (xs : List V) (H : Hp) : kBM' r x Q xs H = r x xs H Q := rfl
def kBM (K : PySem.W.Frag) (T : String) (r : V → List V → Hp → VK → Prop) (t : TA) (σ : St) (Q : VK) : VK := fun x H => tyV K T x H ∧ t σ H (kBM' r x Q)
theorem m_kBM (K : PySem.W.Frag) (T : String) (r : V → List V → Hp → VK → Prop) (t : TA) (σ : St) (Q : VK) (x : V) (H : Hp) : kBM K T r t σ Q x H = (tyV K T x H ∧ t σ H (kBM' r x Q)) := rfl
theorem m_tBM (K : PySem.W.Frag) (T : String) (r : V → List V → Hp → VK → Prop) (to : TE) (t : TA) (σ : St) (H : Hp) (Q : VK) : tBM K T r to t σ H Q = to σ H (kBM K T r t σ Q) := rfl
def kBM0 (K : PySem.W.Frag) (T : String) (r : V → List V → Hp → VK → Prop) (Q : VK) : VK := fun x H => tyV K T x H ∧ r x [] H Q
theorem m_kBM0 (K : PySem.W.Frag) (T : String) (r : V → List V → Hp → VK → Prop) (Q : VK) (x : V) (H : Hp) : kBM0 K T r Q x H = (tyV K T x H ∧ r x [] H Q) := rfl
theorem m_tBM0 (K : PySem.W.Frag) (T : String) (r : V → List V → Hp → VK → Prop) (to : TE) (σ : St) (H : Hp) (Q : VK) : tBM0 K T r to σ H Q = to σ H (kBM0 K T r Q) := rfl
theorem tyV_list (K : PySem.W.Frag) (p : Addr) (H : Hp) (h : (lstAt H p).isSome = true) : tyV K "list" (.ref p) H = True := by
  cases e : lstAt H p with
  | none => rw [e] at h; cases h
  | some ys => exact eq_true (.inl ⟨rfl, ys, SqL.of (lst_of e)⟩)
def kApp (l : Addr) (y : V) (H : Hp) (Q : VK) : List V → Prop := fun xs => xs.length < sizeLine ∧ Q .non (upd H l (.lst (xs ++ [y])))
theorem m_kApp (l : Addr) (y : V) (H : Hp) (Q : VK) (xs : List V) : kApp l y H Q xs = (xs.length < sizeLine ∧ Q .non (upd H l (.lst (xs ++ [y])))) := rfl
theorem m_rAppend (l : Addr) (y : V) (H : Hp) (Q : VK) : rAppend (.ref l) [y] H Q = optK (lstAt H l) (kApp l y H Q) := by
  refine propext ⟨fun h => ?_, fun h => ?_⟩
  · obtain ⟨_, xs, _, e1, e2, e3, a, b⟩ := h
    cases e1; cases e2
    have e : lstAt H l = some xs := by unfold lstAt; rw [e3]; rfl
    rw [e]; exact ⟨a, b⟩
  · obtain ⟨xs, e, a, b⟩ := optK_ex h
    exact ⟨l, xs, y, rfl, rfl, lst_of e, a, b⟩
def kRev (l : Addr) (H : Hp) (Q : VK) : List V → Prop := fun xs => Q .non (upd H l (.lst xs.reverse))
theorem m_kRev (l : Addr) (H : Hp) (Q : VK) (xs : List V) : kRev l H Q xs = Q .non (upd H l (.lst xs.reverse)) := rfl
theorem m_rReverse (l : Addr) (H : Hp) (Q : VK) : rReverse (.ref l) [] H Q = optK (lstAt H l) (kRev l H Q) := by
  refine propext ⟨fun h => ?_, fun h => ?_⟩
  · obtain ⟨_, xs, e1, _, e3, b⟩ := h
    cases e1
    have e : lstAt H l = some xs := by unfold lstAt; rw [e3]; rfl
    rw [e]; exact b
  · obtain ⟨xs, e, b⟩ := optK_ex h
    exact ⟨l, xs, rfl, rfl, lst_of e, b⟩
def kPop' (l : Addr) (H : Hp) (Q : VK) (xs : List V) : V → Prop := fun y => Q y (upd H l (.lst xs.dropLast))
theorem m_kPop' (l : Addr) (H : Hp) (Q : VK) (xs : List V) (y : V) : kPop' l H Q xs y = Q y (upd H l (.lst xs.dropLast)) := rfl
def kPop (l : Addr) (H : Hp) (Q : VK) : List V → Prop := fun xs => optK (xs[xs.length - 1]?) (kPop' l H Q xs)
theorem m_kPop (l : Addr) (H : Hp) (Q : VK) (xs : List V) : kPop l H Q xs = optK (xs[xs.length - 1]?) (kPop' l H Q xs) := rfl
theorem m_rPop (l : Addr) (H : Hp) (Q : VK) : rPop (.ref l) [] H Q = optK (lstAt H l) (kPop l H Q) := by
  refine propext ⟨fun h => ?_, fun h => ?_⟩
  · obtain ⟨_, xs, y, e1, _, e3, e4, b⟩ := h
    cases e1
    have e : lstAt H l = some xs := by unfold lstAt; rw [e3]; rfl
    rw [e]
    show optK (xs[xs.length - 1]?) _
    rw [e4]; exact b
  · obtain ⟨xs, e, b⟩ := optK_ex h
    obtain ⟨y, e4, b⟩ := optK_ex b
    exact ⟨l, xs, y, rfl, rfl, lst_of e, e4, b⟩
/-! + of two lists -/
def kCat2 (xs : List V) (H : Hp) (Q : VK) : List V → Prop := fun ys => xs.length + ys.length ≤ sizeLine ∧ ∀ p, H p = none → Q (.ref p) (upd H p (.lst (xs ++ ys)))
theorem m_kCat2 (xs : List V) (H : Hp) (Q : VK) (ys : List V) : kCat2 xs H Q ys = (xs.length + ys.length ≤ sizeLine ∧ ∀ p, H p = none → Q (.ref p) (upd H p (.lst (xs ++ ys)))) := rfl
def kCat1 (b : Addr) (H : Hp) (Q : VK) : List V → Prop := fun xs => optK (lstAt H b) (kCat2 xs H Q)
theorem m_kCat1 (b : Addr) (H : Hp) (Q : VK) (xs : List V) : kCat1 b H Q xs = optK (lstAt H b) (kCat2 xs H Q) := rfl
theorem m_rCat (l b : Addr) (H : Hp) (Q : VK) : rCat (.ref l) (.ref b) H Q = optK (lstAt H l) (kCat1 b H Q) := by
  refine propext ⟨fun h => ?_, fun h => ?_⟩
  · obtain ⟨l', b', xs, zs, e1, e2, e3, e4, hz, hq⟩ := h
    cases e1; cases e2
    have e : lstAt H l = some xs := by unfold lstAt; rw [e3]; rfl
    have e' : lstAt H b = some zs := by unfold lstAt; rw [e4]; rfl
    rw [e]
    show optK (lstAt H b) _
    rw [e']; exact ⟨hz, hq⟩
  · obtain ⟨xs, e, q⟩ := optK_ex h
    obtain ⟨zs, e', a, q⟩ := optK_ex q
    exact ⟨l, b, xs, zs, rfl, rfl, lst_of e, lst_of e', a, q⟩
/-! o[i] = v -/
def kSet' (p : Addr) (xs : List V) (v : V) (H : Hp) (Q : Hp → Prop) : Nat → Prop := fun j => Q (upd H p (.lst (xs.set j v)))
theorem m_kSet' (p : Addr) (xs : List V) (v : V) (H : Hp) (Q : Hp → Prop) (j : Nat) : kSet' p xs v H Q j = Q (upd H p (.lst (xs.set j v))) := rfl
def kSet (p : Addr) (i : Int) (v : V) (H : Hp) (Q : Hp → Prop) : List V → Prop := fun xs => optK (ixN xs.length i) (kSet' p xs v H Q)
theorem m_kSet (p : Addr) (i : Int) (v : V) (H : Hp) (Q : Hp → Prop) (xs : List V) : kSet p i v H Q xs = optK (ixN xs.length i) (kSet' p xs v H Q) := rfl
theorem m_rSetL (p : Addr) (i : Int) (v : V) (H : Hp) (Q : Hp → Prop) : rSetL (.ref p) (.int i) v H Q = optK (lstAt H p) (kSet p i v H Q) := by
  refine propext ⟨fun h => ?_, fun h => ?_⟩
  · obtain ⟨_, xs, _, j, e1, e2, e3, e4, b⟩ := h
    cases e1; cases e2
    have e : lstAt H p = some xs := by unfold lstAt; rw [e3]; rfl
    rw [e]
    show optK (ixN xs.length i) _
    rw [e4]; exact b
  · obtain ⟨xs, e, q⟩ := optK_ex h
    obtain ⟨j, e4, q⟩ := optK_ex q
    exact ⟨p, xs, i, j, rfl, rfl, lst_of e, e4, q⟩
def kGSub3 (t : TSet) (o v : V) (σ : St) (Q : St → Hp → Prop) : VK := fun i H => t o i v H fun H3 => Q σ H3
theorem m_kGSub3 (t : TSet) (o v : V) (σ : St) (Q : St → Hp → Prop) (i : V) (H : Hp) : kGSub3 t o v σ Q i H = t o i v H (Q σ) := rfl
def kGSub2 (ti : TE) (t : TSet) (v : V) (σ : St) (Q : St → Hp → Prop) : VK := fun o H => ti σ H (kGSub3 t o v σ Q)
theorem m_kGSub2 (ti : TE) (t : TSet) (v : V) (σ : St) (Q : St → Hp → Prop) (o : V) (H : Hp) : kGSub2 ti t v σ Q o H = ti σ H (kGSub3 t o v σ Q) := rfl
theorem m_gSub (to ti : TE) (t : TSet) (v : V) (σ : St) (H : Hp) (Q : St → Hp → Prop) : gSub to ti t v σ H Q = to σ H (kGSub2 ti t v σ Q) := rfl
/-! a, b = t -/
def kGT (n : Nat) (t : TGs) (σ : St) (H : Hp) (Q : St → Hp → Prop) : List V → Prop := fun xs => xs.length = n ∧ t xs σ H Q
theorem m_kGT (n : Nat) (t : TGs) (σ : St) (H : Hp) (Q : St → Hp → Prop) (xs : List V) : kGT n t σ H Q xs = (xs.length = n ∧ t xs σ H Q) := rfl
def qGT (n : Nat) (t : TGs) : TG := fun v σ H Q => match v with
  | .ref a => optK (tupAt H a) (kGT n t σ H Q)
  | _ => False
theorem m_qGT (n : Nat) (t : TGs) (a : Addr) (σ : St) (H : Hp) (Q : St → Hp → Prop) : qGT n t (.ref a) σ H Q = optK (tupAt H a) (kGT n t σ H Q) := rfl
/-! is None -/
/-! loops -/
def kBody (tb : TS) (D : Ends) : St → Hp → Prop := fun σ H => tb D σ H
theorem m_kBody (tb : TS) (D : Ends) (σ : St) (H : Hp) : kBody tb D σ H = tb D σ H := rfl
def kFor (g : TG) (tb : TS) (D : Ends) (σ : St) (J : It) (H1 : Hp) : Prop := ∃ W : Nat → Nat → St → Hp → Prop, (∃ m, W 0 m σ H1) ∧ ∀ i m σ H, W i m σ H →
  (J.stop i H ∧ D.nx σ H) ∨ (J.go i H ∧ ∃ N : St → Hp → Prop, (∀ σ' H', N σ' H' → ∃ m', m' < m ∧ W (i + 1) m' σ' H') ∧ ∀ x H', J.yld i H x H' → g x σ H' fun σ2 H2 => tb { D with nx := N, ct := N, bk := D.nx } σ2 H2)
theorem m_tFor (wi : TI) (g : TG) (tb : TS) (D : Ends) (σ : St) (H : Hp) : tFor wi g tb D σ H = wi σ H (kFor g tb D σ) := rfl
def kR1 (R : It → Hp → Prop) : List V → Hp → Prop := fun vs H => ∃ j : Int, vs = [.int j] ∧ -(2 ^ 62) ≤ j ∧ j < 2 ^ 62 ∧ R (Itr 0 j.toNat) H
theorem m_kR1 (R : It → Hp → Prop) (j : Int) (H : Hp) : kR1 R [.int j] H = (-(2 ^ 62) ≤ j ∧ j < 2 ^ 62 ∧ R (Itr 0 j.toNat) H) := propext ⟨fun ⟨_, e, q⟩ => by cases e; exact q, fun q => ⟨j, rfl, q⟩⟩
theorem m_iRng1 (ta : TA) (σ : St) (H : Hp) (R : It → Hp → Prop) : iRng1 ta σ H R = ta σ H (kR1 R) := rfl
def kR2 (R : It → Hp → Prop) : List V → Hp → Prop := fun vs H => ∃ i j : Int, vs = [.int i, .int j] ∧ (-(2 ^ 62) ≤ i ∧ i < 2 ^ 62 ∧ -(2 ^ 62) ≤ j ∧ j < 2 ^ 62) ∧ R (Itr i (j - i).toNat) H
theorem m_kR2 (R : It → Hp → Prop) (i j : Int) (H : Hp) : kR2 R [.int i, .int j] H = ((-(2 ^ 62) ≤ i ∧ i < 2 ^ 62 ∧ -(2 ^ 62) ≤ j ∧ j < 2 ^ 62) ∧ R (Itr i (j - i).toNat) H) := propext ⟨fun ⟨_, _, e, q⟩ => by cases e; exact q, fun q => ⟨i, j, rfl, q⟩⟩
theorem m_iRng2 (ta : TA) (σ : St) (H : Hp) (R : It → Hp → Prop) : iRng2 ta σ H R = ta σ H (kR2 R) := rfl
/-- a list or a tuple, whichever stands there -/
def kISq' (K : PySem.W.Frag) (a : Addr) (H : Hp) (R : It → Hp → Prop) : HO → Prop := fun o => match o with
  | .lst _ => R (Itl K a) H
  | .frz _ (.lst _) => R (Itl K a) H
  | .tup _ => R (Itt K a) H
  | _ => False
theorem m_kISq'_l (K : PySem.W.Frag) (a : Addr) (H : Hp) (R : It → Hp → Prop) (xs : List V) : kISq' K a H R (.lst xs) = R (Itl K a) H := rfl
theorem m_kISq'_t (K : PySem.W.Frag) (a : Addr) (H : Hp) (R : It → Hp → Prop) (xs : List V) : kISq' K a H R (.tup xs) = R (Itt K a) H := rfl
def kISq (K : PySem.W.Frag) (R : It → Hp → Prop) : VK := fun x H => match x with
  | .ref a => optK (H a) (kISq' K a H R)
  | _ => False
theorem m_kISq (K : PySem.W.Frag) (R : It → Hp → Prop) (a : Addr) (H : Hp) : kISq K R (.ref a) H = optK (H a) (kISq' K a H R) := rfl
def iSeq (K : PySem.W.Frag) (tl : TE) : TI := fun σ H R => tl σ H (kISq K R)
theorem m_iSeq (K : PySem.W.Frag) (tl : TE) (σ : St) (H : Hp) (R : It → Hp → Prop) : iSeq K tl σ H R = tl σ H (kISq K R) := rfl
theorem pi_seq {tg l : Expr} {tl : TE} (hl : PE X l tl) : PI X tg l (iSeq X.K tl) := by
  intro pins s σ H R I h
  refine thn (hl pins s σ H _ I h) fun v s1 ⟨x, H1, I1, r1, q1⟩ => ?_
  unfold kISq at q1
  split at q1
  · rename_i a
    cases r1
    obtain ⟨o, e, q⟩ := optK_ex q1
    have fp : ∀ b ∈ [s1.heap.objs.size], FpOk X pins H1 b := fun b hb => by
      have e : b = s1.heap.objs.size := by simpa using hb
      subst e
      exact I1.fpOk (Nat.le_refl _) (I1.hok.fresh (Nat.le_refl _))
    have lst : ∀ xs, SqL X.K H1 a xs → R (Itl X.K a) H1 → wpAny (model X.prog X.w) X.A (pyIter (.ref a)) (PIE X pins σ tg R) X.xe s1 := fun xs hq q => by
      obtain ⟨its, rv, p, hz⟩ := I1.list hq
      refine wpAny_pyIter_list p.isList ?_
      exact ⟨s1.heap.objs.size, [s1.heap.objs.size], _, _, H1, rfl, I1.kept (t' := s1.toks) fun b o e => Heap.get?_push_of_some _ e, turn_list a _, ⟨_, Heap.get?_push_size _ rfl, rfl, rfl⟩, fp, q⟩
    unfold kISq' at q
    split at q
    · exact lst _ (SqL.of e) q
    · exact lst _ (.inl (.inr ⟨_, e⟩)) q
    · obtain ⟨its, rv, p, hz⟩ := I1.tuple (SqT.of e)
      refine wpAny_pyIter_tuple (show s1.heap.IsTuple a its.toArray from p) ?_
      exact ⟨s1.heap.objs.size, [s1.heap.objs.size], _, _, H1, rfl, I1.kept (t' := s1.toks) fun b o e => Heap.get?_push_of_some _ e, turn_tuple a _, ⟨_, Heap.get?_push_size _ rfl, rfl, rfl⟩, fp, q⟩
    · exact q.elim
  · exact q1.elim
theorem for_rng {lo : Int} {n : Nat} {g : TG} {tb : TS} {nx : St → Hp → Prop} {rt : VK} {bk ct : St → Hp → Prop} {σ : St} {H : Hp} (Pv : Nat → St → Hp → Prop) (h0 : Pv 0 σ H)
    (hs : ∀ i σ H, i < n → Pv i σ H → g (.int (lo + i)) σ H (kBody tb ⟨Pv (i + 1), rt, nx, Pv (i + 1)⟩)) (hd : ∀ σ H, Pv n σ H → nx σ H) : kFor g tb ⟨nx, rt, bk, ct⟩ σ (Itr lo n) H := for_range Pv h0 hs hd
theorem for_lst {K : PySem.W.Frag} {a : Addr} {xs : List V} {g : TG} {tb : TS} {nx : St → Hp → Prop} {rt : VK} {bk ct : St → Hp → Prop} {σ : St} {H : Hp} (Pv : Nat → St → Hp → Prop) (h0 : Pv 0 σ H) (hl : ∀ i σ H, i ≤ xs.length → Pv i σ H → H a = some (.lst xs))
    (hs : ∀ i x σ H, xs[i]? = some x → Pv i σ H → g x σ H (kBody tb ⟨Pv (i + 1), rt, nx, Pv (i + 1)⟩)) (hd : ∀ σ H, Pv xs.length σ H → nx σ H) : kFor g tb ⟨nx, rt, bk, ct⟩ σ (Itl K a) H := for_list (xs := xs) Pv h0 (fun i σ H hi p => SqL.of (hl i σ H hi p)) hs hd
theorem for_tupl {K : PySem.W.Frag} {a : Addr} {xs : List V} {g : TG} {tb : TS} {nx : St → Hp → Prop} {rt : VK} {bk ct : St → Hp → Prop} {σ : St} {H : Hp} (Pv : Nat → St → Hp → Prop) (h0 : Pv 0 σ H) (hl : ∀ i σ H, i ≤ xs.length → Pv i σ H → H a = some (.tup xs))
    (hs : ∀ i x σ H, xs[i]? = some x → Pv i σ H → g x σ H (kBody tb ⟨Pv (i + 1), rt, nx, Pv (i + 1)⟩)) (hd : ∀ σ H, Pv xs.length σ H → nx σ H) : kFor g tb ⟨nx, rt, bk, ct⟩ σ (Itt K a) H := for_tup (xs := xs) Pv h0 (fun i σ H hi p => SqT.of (hl i σ H hi p)) hs hd
/-- while, by its own invariant and measure; the test is run by the machine -/
def kWh (tb : TS) (nx : St → Hp → Prop) (rt : VK) (Pv : Nat → St → Hp → Prop) (m : Nat) (σ : St) : Bool → Hp → Prop := fun b H => if b = true then tb ⟨fun σ' H' => ∃ m', m' < m ∧ Pv m' σ' H', rt, nx, fun σ' H' => ∃ m', m' < m ∧ Pv m' σ' H'⟩ σ H else nx σ H
theorem m_kWh (tb : TS) (nx : St → Hp → Prop) (rt : VK) (Pv : Nat → St → Hp → Prop) (m : Nat) (σ : St) (b : Bool) (H : Hp) : kWh tb nx rt Pv m σ b H = (if b = true then tb ⟨fun σ' H' => ∃ m', m' < m ∧ Pv m' σ' H', rt, nx, fun σ' H' => ∃ m', m' < m ∧ Pv m' σ' H'⟩ σ H else nx σ H) := rfl
end
end L2

set_option Elab.async false
set_option linter.all false
set_option maxRecDepth 100000
set_option maxHeartbeats 4000000
namespace L2
open PySem PySem.Spec PyProof.Rows
/-! ### exceptions, for the machine -/
theorem m_tCallX (sp : Sp) (dvs : List V) (E : St → XK) (t : TA) (σ : St) (H : Hp) (Q : VK) : tCallX sp dvs E t σ H Q = t σ H (kCall sp dvs (E σ) Q) := rfl
def kTry (th : Value → Option Addr → TS) (D : Ends) : St → XK := fun σ cls d H => th cls d D σ H
theorem m_kTry (th : Value → Option Addr → TS) (D : Ends) (σ : St) (cls : Value) (d : Option Addr) (H : Hp) : kTry th D σ cls d H = th cls d D σ H := rfl
theorem m_tTry (tb : (St → XK) → TS) (th : Value → Option Addr → TS) (D : Ends) (σ : St) (H : Hp) : tTry tb th D σ H = tb (kTry th D) D σ H := rfl
def kRaise (C : Addr) (E : XK) : List V → Hp → Prop := fun vs H => vs.length ≤ sizeLine ∧ E (.ref C) none H
theorem m_kRaise (C : Addr) (E : XK) (vs : List V) (H : Hp) : kRaise C E vs H = (vs.length ≤ sizeLine ∧ E (.ref C) none H) := rfl
theorem m_tRaise (C : Addr) (E : St → XK) (t : TA) (D : Ends) (σ : St) (H : Hp) : tRaise C E t D σ H = t σ H (kRaise C (E σ)) := rfl
def kExc (tb : TS) (tr : Value → Option Addr → TS) (cls : Value) (d : Option Addr) (D : Ends) (σ : St) (H : Hp) : Bool → Prop := fun b => if b = true then tb D σ H else tr cls d D σ H
theorem m_kExc (tb : TS) (tr : Value → Option Addr → TS) (cls : Value) (d : Option Addr) (D : Ends) (σ : St) (H : Hp) (b : Bool) : kExc tb tr cls d D σ H b = (if b = true then tb D σ H else tr cls d D σ H) := rfl
theorem m_tExc (K : PySem.W.Frag) (C : Value) (tb : TS) (tr : Value → Option Addr → TS) (cls : Value) (d : Option Addr) (D : Ends) (σ : St) (H : Hp) : tExc K C tb tr cls d D σ H = optK (PySem.W.exmOne K cls C) (kExc tb tr cls d D σ H) := by
  refine propext ⟨fun ⟨b, e, h⟩ => ?_, fun h => ?_⟩
  · rw [e]; exact h
  · obtain ⟨b, e, h⟩ := optK_ex h
    exact ⟨b, e, h⟩
theorem m_tLost (cls : Value) (d : Option Addr) (D : Ends) (σ : St) (H : Hp) : tLost cls d D σ H = False := rfl
def kSetE (i : Nat) (tb : TS) (D : Ends) : St → Hp → Prop := fun σ H => tb D σ H
theorem m_kSetE (i : Nat) (tb : TS) (D : Ends) (σ : St) (H : Hp) : kSetE i tb D σ H = tb D σ H := rfl
def kExcAs (i : Nat) (tb : TS) (tr : Value → Option Addr → TS) (cls : Value) (d : Option Addr) (D : Ends) (σ : St) (H : Hp) : Bool → Prop := fun b => if b = true then ∀ (e : Addr) (oe : Obj), H e = none → oe.cls = cls → oe.dict = d → (∃ vs, oe.data = .fields vs) → gName i (.ref e) σ (upd H e (excO oe)) (kSetE i tb (D.del i)) else tr cls d D σ H
theorem m_kExcAs (i : Nat) (tb : TS) (tr : Value → Option Addr → TS) (cls : Value) (d : Option Addr) (D : Ends) (σ : St) (H : Hp) (b : Bool) : kExcAs i tb tr cls d D σ H b = (if b = true then ∀ (e : Addr) (oe : Obj), H e = none → oe.cls = cls → oe.dict = d → (∃ vs, oe.data = .fields vs) → gName i (.ref e) σ (upd H e (excO oe)) (kSetE i tb (D.del i)) else tr cls d D σ H) := rfl
theorem m_tExcAs (K : PySem.W.Frag) (C : Value) (i : Nat) (tb : TS) (tr : Value → Option Addr → TS) (cls : Value) (d : Option Addr) (D : Ends) (σ : St) (H : Hp) : tExcAs K C i tb tr cls d D σ H = optK (PySem.W.exmOne K cls C) (kExcAs i tb tr cls d D σ H) := by
  refine propext ⟨fun ⟨b, e, h⟩ => ?_, fun h => ?_⟩
  · rw [e]; exact h
  · obtain ⟨b, e, h⟩ := optK_ex h
    exact ⟨b, e, h⟩
theorem m_del (i : Nat) (nx : St → Hp → Prop) (rt : VK) (bk ct : St → Hp → Prop) : Ends.del i ⟨nx, rt, bk, ct⟩ = ⟨kDel i nx, rt, kDel i bk, kDel i ct⟩ := rfl
theorem m_kDel (i : Nat) (nx : St → Hp → Prop) (σ : St) (H : Hp) : kDel i nx σ H = gDel i σ H nx := rfl
theorem m_gDel_0 {a : Option V} {σ : St} {H : Hp} {Q : St → Hp → Prop} : gDel 0 (a :: σ) H Q = Q (none :: σ) H := rfl
theorem m_gDel_1 {a0 : Option V} {a : Option V} {σ : St} {H : Hp} {Q : St → Hp → Prop} : gDel 1 (a0 :: a :: σ) H Q = Q (a0 :: none :: σ) H := rfl
theorem m_gDel_2 {a0 a1 : Option V} {a : Option V} {σ : St} {H : Hp} {Q : St → Hp → Prop} : gDel 2 (a0 :: a1 :: a :: σ) H Q = Q (a0 :: a1 :: none :: σ) H := rfl
theorem m_gDel_3 {a0 a1 a2 : Option V} {a : Option V} {σ : St} {H : Hp} {Q : St → Hp → Prop} : gDel 3 (a0 :: a1 :: a2 :: a :: σ) H Q = Q (a0 :: a1 :: a2 :: none :: σ) H := rfl
theorem m_gDel_4 {a0 a1 a2 a3 : Option V} {a : Option V} {σ : St} {H : Hp} {Q : St → Hp → Prop} : gDel 4 (a0 :: a1 :: a2 :: a3 :: a :: σ) H Q = Q (a0 :: a1 :: a2 :: a3 :: none :: σ) H := rfl
theorem m_gDel_5 {a0 a1 a2 a3 a4 : Option V} {a : Option V} {σ : St} {H : Hp} {Q : St → Hp → Prop} : gDel 5 (a0 :: a1 :: a2 :: a3 :: a4 :: a :: σ) H Q = Q (a0 :: a1 :: a2 :: a3 :: a4 :: none :: σ) H := rfl
theorem m_gDel_6 {a0 a1 a2 a3 a4 a5 : Option V} {a : Option V} {σ : St} {H : Hp} {Q : St → Hp → Prop} : gDel 6 (a0 :: a1 :: a2 :: a3 :: a4 :: a5 :: a :: σ) H Q = Q (a0 :: a1 :: a2 :: a3 :: a4 :: a5 :: none :: σ) H := rfl
theorem m_gDel_7 {a0 a1 a2 a3 a4 a5 a6 : Option V} {a : Option V} {σ : St} {H : Hp} {Q : St → Hp → Prop} : gDel 7 (a0 :: a1 :: a2 :: a3 :: a4 :: a5 :: a6 :: a :: σ) H Q = Q (a0 :: a1 :: a2 :: a3 :: a4 :: a5 :: a6 :: none :: σ) H := rfl
theorem m_gDel_8 {a0 a1 a2 a3 a4 a5 a6 a7 : Option V} {a : Option V} {σ : St} {H : Hp} {Q : St → Hp → Prop} : gDel 8 (a0 :: a1 :: a2 :: a3 :: a4 :: a5 :: a6 :: a7 :: a :: σ) H Q = Q (a0 :: a1 :: a2 :: a3 :: a4 :: a5 :: a6 :: a7 :: none :: σ) H := rfl
theorem m_gDel_9 {a0 a1 a2 a3 a4 a5 a6 a7 a8 : Option V} {a : Option V} {σ : St} {H : Hp} {Q : St → Hp → Prop} : gDel 9 (a0 :: a1 :: a2 :: a3 :: a4 :: a5 :: a6 :: a7 :: a8 :: a :: σ) H Q = Q (a0 :: a1 :: a2 :: a3 :: a4 :: a5 :: a6 :: a7 :: a8 :: none :: σ) H := rfl
theorem m_gDel_10 {a0 a1 a2 a3 a4 a5 a6 a7 a8 a9 : Option V} {a : Option V} {σ : St} {H : Hp} {Q : St → Hp → Prop} : gDel 10 (a0 :: a1 :: a2 :: a3 :: a4 :: a5 :: a6 :: a7 :: a8 :: a9 :: a :: σ) H Q = Q (a0 :: a1 :: a2 :: a3 :: a4 :: a5 :: a6 :: a7 :: a8 :: a9 :: none :: σ) H := rfl
theorem m_gDel_11 {a0 a1 a2 a3 a4 a5 a6 a7 a8 a9 a10 : Option V} {a : Option V} {σ : St} {H : Hp} {Q : St → Hp → Prop} : gDel 11 (a0 :: a1 :: a2 :: a3 :: a4 :: a5 :: a6 :: a7 :: a8 :: a9 :: a10 :: a :: σ) H Q = Q (a0 :: a1 :: a2 :: a3 :: a4 :: a5 :: a6 :: a7 :: a8 :: a9 :: a10 :: none :: σ) H := rfl
theorem m_gDel_12 {a0 a1 a2 a3 a4 a5 a6 a7 a8 a9 a10 a11 : Option V} {a : Option V} {σ : St} {H : Hp} {Q : St → Hp → Prop} : gDel 12 (a0 :: a1 :: a2 :: a3 :: a4 :: a5 :: a6 :: a7 :: a8 :: a9 :: a10 :: a11 :: a :: σ) H Q = Q (a0 :: a1 :: a2 :: a3 :: a4 :: a5 :: a6 :: a7 :: a8 :: a9 :: a10 :: a11 :: none :: σ) H := rfl
theorem m_gDel_13 {a0 a1 a2 a3 a4 a5 a6 a7 a8 a9 a10 a11 a12 : Option V} {a : Option V} {σ : St} {H : Hp} {Q : St → Hp → Prop} : gDel 13 (a0 :: a1 :: a2 :: a3 :: a4 :: a5 :: a6 :: a7 :: a8 :: a9 :: a10 :: a11 :: a12 :: a :: σ) H Q = Q (a0 :: a1 :: a2 :: a3 :: a4 :: a5 :: a6 :: a7 :: a8 :: a9 :: a10 :: a11 :: a12 :: none :: σ) H := rfl
theorem m_gDel_14 {a0 a1 a2 a3 a4 a5 a6 a7 a8 a9 a10 a11 a12 a13 : Option V} {a : Option V} {σ : St} {H : Hp} {Q : St → Hp → Prop} : gDel 14 (a0 :: a1 :: a2 :: a3 :: a4 :: a5 :: a6 :: a7 :: a8 :: a9 :: a10 :: a11 :: a12 :: a13 :: a :: σ) H Q = Q (a0 :: a1 :: a2 :: a3 :: a4 :: a5 :: a6 :: a7 :: a8 :: a9 :: a10 :: a11 :: a12 :: a13 :: none :: σ) H := rfl
theorem m_gDel_15 {a0 a1 a2 a3 a4 a5 a6 a7 a8 a9 a10 a11 a12 a13 a14 : Option V} {a : Option V} {σ : St} {H : Hp} {Q : St → Hp → Prop} : gDel 15 (a0 :: a1 :: a2 :: a3 :: a4 :: a5 :: a6 :: a7 :: a8 :: a9 :: a10 :: a11 :: a12 :: a13 :: a14 :: a :: σ) H Q = Q (a0 :: a1 :: a2 :: a3 :: a4 :: a5 :: a6 :: a7 :: a8 :: a9 :: a10 :: a11 :: a12 :: a13 :: a14 :: none :: σ) H := rfl
theorem m_gDel_16 {a0 a1 a2 a3 a4 a5 a6 a7 a8 a9 a10 a11 a12 a13 a14 a15 : Option V} {a : Option V} {σ : St} {H : Hp} {Q : St → Hp → Prop} : gDel 16 (a0 :: a1 :: a2 :: a3 :: a4 :: a5 :: a6 :: a7 :: a8 :: a9 :: a10 :: a11 :: a12 :: a13 :: a14 :: a15 :: a :: σ) H Q = Q (a0 :: a1 :: a2 :: a3 :: a4 :: a5 :: a6 :: a7 :: a8 :: a9 :: a10 :: a11 :: a12 :: a13 :: a14 :: a15 :: none :: σ) H := rfl
theorem m_gDel_17 {a0 a1 a2 a3 a4 a5 a6 a7 a8 a9 a10 a11 a12 a13 a14 a15 a16 : Option V} {a : Option V} {σ : St} {H : Hp} {Q : St → Hp → Prop} : gDel 17 (a0 :: a1 :: a2 :: a3 :: a4 :: a5 :: a6 :: a7 :: a8 :: a9 :: a10 :: a11 :: a12 :: a13 :: a14 :: a15 :: a16 :: a :: σ) H Q = Q (a0 :: a1 :: a2 :: a3 :: a4 :: a5 :: a6 :: a7 :: a8 :: a9 :: a10 :: a11 :: a12 :: a13 :: a14 :: a15 :: a16 :: none :: σ) H := rfl
theorem m_gDel_18 {a0 a1 a2 a3 a4 a5 a6 a7 a8 a9 a10 a11 a12 a13 a14 a15 a16 a17 : Option V} {a : Option V} {σ : St} {H : Hp} {Q : St → Hp → Prop} : gDel 18 (a0 :: a1 :: a2 :: a3 :: a4 :: a5 :: a6 :: a7 :: a8 :: a9 :: a10 :: a11 :: a12 :: a13 :: a14 :: a15 :: a16 :: a17 :: a :: σ) H Q = Q (a0 :: a1 :: a2 :: a3 :: a4 :: a5 :: a6 :: a7 :: a8 :: a9 :: a10 :: a11 :: a12 :: a13 :: a14 :: a15 :: a16 :: a17 :: none :: σ) H := rfl
theorem m_gDel_19 {a0 a1 a2 a3 a4 a5 a6 a7 a8 a9 a10 a11 a12 a13 a14 a15 a16 a17 a18 : Option V} {a : Option V} {σ : St} {H : Hp} {Q : St → Hp → Prop} : gDel 19 (a0 :: a1 :: a2 :: a3 :: a4 :: a5 :: a6 :: a7 :: a8 :: a9 :: a10 :: a11 :: a12 :: a13 :: a14 :: a15 :: a16 :: a17 :: a18 :: a :: σ) H Q = Q (a0 :: a1 :: a2 :: a3 :: a4 :: a5 :: a6 :: a7 :: a8 :: a9 :: a10 :: a11 :: a12 :: a13 :: a14 :: a15 :: a16 :: a17 :: a18 :: none :: σ) H := rfl
theorem m_gDel_20 {a0 a1 a2 a3 a4 a5 a6 a7 a8 a9 a10 a11 a12 a13 a14 a15 a16 a17 a18 a19 : Option V} {a : Option V} {σ : St} {H : Hp} {Q : St → Hp → Prop} : gDel 20 (a0 :: a1 :: a2 :: a3 :: a4 :: a5 :: a6 :: a7 :: a8 :: a9 :: a10 :: a11 :: a12 :: a13 :: a14 :: a15 :: a16 :: a17 :: a18 :: a19 :: a :: σ) H Q = Q (a0 :: a1 :: a2 :: a3 :: a4 :: a5 :: a6 :: a7 :: a8 :: a9 :: a10 :: a11 :: a12 :: a13 :: a14 :: a15 :: a16 :: a17 :: a18 :: a19 :: none :: σ) H := rfl
theorem m_gDel_21 {a0 a1 a2 a3 a4 a5 a6 a7 a8 a9 a10 a11 a12 a13 a14 a15 a16 a17 a18 a19 a20 : Option V} {a : Option V} {σ : St} {H : Hp} {Q : St → Hp → Prop} : gDel 21 (a0 :: a1 :: a2 :: a3 :: a4 :: a5 :: a6 :: a7 :: a8 :: a9 :: a10 :: a11 :: a12 :: a13 :: a14 :: a15 :: a16 :: a17 :: a18 :: a19 :: a20 :: a :: σ) H Q = Q (a0 :: a1 :: a2 :: a3 :: a4 :: a5 :: a6 :: a7 :: a8 :: a9 :: a10 :: a11 :: a12 :: a13 :: a14 :: a15 :: a16 :: a17 :: a18 :: a19 :: a20 :: none :: σ) H := rfl
theorem m_gDel_22 {a0 a1 a2 a3 a4 a5 a6 a7 a8 a9 a10 a11 a12 a13 a14 a15 a16 a17 a18 a19 a20 a21 : Option V} {a : Option V} {σ : St} {H : Hp} {Q : St → Hp → Prop} : gDel 22 (a0 :: a1 :: a2 :: a3 :: a4 :: a5 :: a6 :: a7 :: a8 :: a9 :: a10 :: a11 :: a12 :: a13 :: a14 :: a15 :: a16 :: a17 :: a18 :: a19 :: a20 :: a21 :: a :: σ) H Q = Q (a0 :: a1 :: a2 :: a3 :: a4 :: a5 :: a6 :: a7 :: a8 :: a9 :: a10 :: a11 :: a12 :: a13 :: a14 :: a15 :: a16 :: a17 :: a18 :: a19 :: a20 :: a21 :: none :: σ) H := rfl
theorem m_gDel_23 {a0 a1 a2 a3 a4 a5 a6 a7 a8 a9 a10 a11 a12 a13 a14 a15 a16 a17 a18 a19 a20 a21 a22 : Option V} {a : Option V} {σ : St} {H : Hp} {Q : St → Hp → Prop} : gDel 23 (a0 :: a1 :: a2 :: a3 :: a4 :: a5 :: a6 :: a7 :: a8 :: a9 :: a10 :: a11 :: a12 :: a13 :: a14 :: a15 :: a16 :: a17 :: a18 :: a19 :: a20 :: a21 :: a22 :: a :: σ) H Q = Q (a0 :: a1 :: a2 :: a3 :: a4 :: a5 :: a6 :: a7 :: a8 :: a9 :: a10 :: a11 :: a12 :: a13 :: a14 :: a15 :: a16 :: a17 :: a18 :: a19 :: a20 :: a21 :: a22 :: none :: σ) H := rfl
theorem m_gDel_24 {a0 a1 a2 a3 a4 a5 a6 a7 a8 a9 a10 a11 a12 a13 a14 a15 a16 a17 a18 a19 a20 a21 a22 a23 : Option V} {a : Option V} {σ : St} {H : Hp} {Q : St → Hp → Prop} : gDel 24 (a0 :: a1 :: a2 :: a3 :: a4 :: a5 :: a6 :: a7 :: a8 :: a9 :: a10 :: a11 :: a12 :: a13 :: a14 :: a15 :: a16 :: a17 :: a18 :: a19 :: a20 :: a21 :: a22 :: a23 :: a :: σ) H Q = Q (a0 :: a1 :: a2 :: a3 :: a4 :: a5 :: a6 :: a7 :: a8 :: a9 :: a10 :: a11 :: a12 :: a13 :: a14 :: a15 :: a16 :: a17 :: a18 :: a19 :: a20 :: a21 :: a22 :: a23 :: none :: σ) H := rfl
theorem m_gDel_25 {a0 a1 a2 a3 a4 a5 a6 a7 a8 a9 a10 a11 a12 a13 a14 a15 a16 a17 a18 a19 a20 a21 a22 a23 a24 : Option V} {a : Option V} {σ : St} {H : Hp} {Q : St → Hp → Prop} : gDel 25 (a0 :: a1 :: a2 :: a3 :: a4 :: a5 :: a6 :: a7 :: a8 :: a9 :: a10 :: a11 :: a12 :: a13 :: a14 :: a15 :: a16 :: a17 :: a18 :: a19 :: a20 :: a21 :: a22 :: a23 :: a24 :: a :: σ) H Q = Q (a0 :: a1 :: a2 :: a3 :: a4 :: a5 :: a6 :: a7 :: a8 :: a9 :: a10 :: a11 :: a12 :: a13 :: a14 :: a15 :: a16 :: a17 :: a18 :: a19 :: a20 :: a21 :: a22 :: a23 :: a24 :: none :: σ) H := rfl
/-! isinstance of an exception -/
theorem m_dictO_none (H : Hp) : dictO H none = True := rfl
theorem m_dictO_some (H : Hp) (dx : Addr) : dictO H (some dx) = optK (H dx) kXd := by
  refine propext ⟨fun ⟨o, h, k⟩ => by rw [h]; exact k, fun h => ?_⟩
  obtain ⟨o, e, k⟩ := optK_ex h
  exact ⟨o, e, k⟩
theorem m_kXd (fs : List (Str × V)) : kXd (.xd fs) = True := rfl
def refC : Value → Option Addr
  | .ref C => some C
  | _ => none
theorem refC_ref (C : Addr) : refC (.ref C) = some C := rfl
def clsV : V → Option Value
  | .ref C => some (.ref C)
  | .ty n => some (.type n)
  | _ => none
theorem clsV_ref (C : Addr) : clsV (.ref C) = some (.ref C) := rfl
theorem clsV_ty (n : String) : clsV (.ty n) = some (.type n) := rfl
def kE4 (H : Hp) (Q : VK) : Bool → Prop := fun b => Q (.bl b) H
theorem m_kE4 (H : Hp) (Q : VK) (b : Bool) : kE4 H Q b = Q (.bl b) H := rfl
def kE3 (K : PySem.W.Frag) (C : Addr) (H : Hp) (Q : VK) : Value → Prop := fun u => optK (PySem.W.kitOne K (.ref C) u) (kE4 H Q)
theorem m_kE3 (K : PySem.W.Frag) (C : Addr) (H : Hp) (Q : VK) (u : Value) : kE3 K C H Q u = optK (PySem.W.kitOne K (.ref C) u) (kE4 H Q) := rfl
def kE2 (K : PySem.W.Frag) (oe : Obj) (D : V) (H : Hp) (Q : VK) : Addr → Prop := fun C => dictO H oe.dict ∧ (∃ vs, oe.data = .fields vs) ∧ ECls K C ∧ optK (clsV D) (kE3 K C H Q)
theorem m_kE2 (K : PySem.W.Frag) (oe : Obj) (D : V) (H : Hp) (Q : VK) (C : Addr) : kE2 K oe D H Q C = (dictO H oe.dict ∧ (∃ vs, oe.data = .fields vs) ∧ ECls K C ∧ optK (clsV D) (kE3 K C H Q)) := rfl
def kE1 (K : PySem.W.Frag) (D : V) (H : Hp) (Q : VK) : HO → Prop := fun o => match o with
  | .frz oe (.ext _) => optK (refC oe.cls) (kE2 K oe D H Q)
  | _ => False
theorem m_kE1 (K : PySem.W.Frag) (D : V) (H : Hp) (Q : VK) (oe : Obj) : kE1 K D H Q (excO oe) = optK (refC oe.cls) (kE2 K oe D H Q) := rfl
def qIsE (K : PySem.W.Frag) (xs : List V) (H : Hp) (Q : VK) : Prop := match xs with
  | [.ref e, D] => optK (H e) (kE1 K D H Q)
  | _ => False
theorem m_qIsE (K : PySem.W.Frag) (e : Addr) (D : V) (H : Hp) (Q : VK) : qIsE K [.ref e, D] H Q = optK (H e) (kE1 K D H Q) := rfl
theorem call_qIsE {X : Cx} : CallR X (.builtin "isinstance") (qIsE X.K) := by
  refine call_isiE.mono fun xs H Q h => ?_
  unfold qIsE at h
  split at h
  · rename_i e D
    obtain ⟨o, h1, h⟩ := optK_ex h
    unfold kE1 at h
    split at h
    · rename_i oe φ
      obtain ⟨C, h2, h⟩ := optK_ex h
      obtain ⟨h3, h4, h5, h⟩ := h
      obtain ⟨u, h6, h⟩ := optK_ex h
      obtain ⟨b, h7, h⟩ := optK_ex h
      have hc : oe.cls = .ref C := by
        cases q : oe.cls with
        | ref C' => rw [q] at h2; cases h2; rfl
        | _ => rw [q] at h2; cases h2
      refine ⟨e, oe, C, D, b, rfl, ⟨_, h1⟩, hc, h3, h4, h5, ⟨u, ?_, h7⟩, h⟩
      cases D with
      | ref a => cases h6; rfl
      | ty n => cases h6; rfl
      | _ => cases h6
    · exact h.elim
  · exact h.elim
/-! ### comprehensions, for the machine -/
def kC3 (D : Addr) (ys : List V) (N : List V → Hp → Prop) : VK := fun y H => H D = some (.lst ys) ∧ ys.length < sizeLine ∧ N (ys ++ [y]) (upd H D (.lst (ys ++ [y])))
theorem m_kC3 (D : Addr) (ys : List V) (N : List V → Hp → Prop) (y : V) (H : Hp) : kC3 D ys N y H = (H D = some (.lst ys) ∧ ys.length < sizeLine ∧ N (ys ++ [y]) (upd H D (.lst (ys ++ [y])))) := rfl
def kC2 (te : TE) (σ2 : St) (D : Addr) (ys : List V) (N : List V → Hp → Prop) : Bool → Hp → Prop := fun b H => if b = true then te σ2 H (kC3 D ys N) else N ys H
theorem m_kC2 (te : TE) (σ2 : St) (D : Addr) (ys : List V) (N : List V → Hp → Prop) (b : Bool) (H : Hp) : kC2 te σ2 D ys N b H = (if b = true then te σ2 H (kC3 D ys N) else N ys H) := rfl
def kC1 (k : Nat) (tt : TT) (te : TE) (σ : St) (D : Addr) (ys : List V) (N : List V → Hp → Prop) : St → Hp → Prop := fun σ2 H => (∃ vs : St, vs.length = k ∧ σ2 = vs ++ σ) ∧ tt σ2 H (kC2 te σ2 D ys N)
theorem m_kC1_1 (tt : TT) (te : TE) (σ : St) (D : Addr) (ys : List V) (N : List V → Hp → Prop) (a : Option V) (H : Hp) : kC1 1 tt te σ D ys N (a :: σ) H = tt (a :: σ) H (kC2 te (a :: σ) D ys N) := propext ⟨fun h => h.2, fun h => ⟨⟨[a], rfl, rfl⟩, h⟩⟩
theorem m_kC1_2 (tt : TT) (te : TE) (σ : St) (D : Addr) (ys : List V) (N : List V → Hp → Prop) (a b : Option V) (H : Hp) : kC1 2 tt te σ D ys N (a :: b :: σ) H = tt (a :: b :: σ) H (kC2 te (a :: b :: σ) D ys N) := propext ⟨fun h => h.2, fun h => ⟨⟨[a, b], rfl, rfl⟩, h⟩⟩
theorem m_tYes (σ : St) (H : Hp) (Q : Bool → Hp → Prop) : tYes σ H Q = Q true H := rfl
def kComp (k : Nat) (g : TG) (tt : TT) (te : TE) (σ : St) (Q : VK) : It → Hp → Prop := fun J H1 => ∀ D, H1 D = none → ∃ W : Nat → Nat → List V → Hp → Prop, (∃ m, W 0 m [] (upd H1 D (.lst []))) ∧ ∀ i m ys H, W i m ys H →
  (J.stop i H ∧ Q (.ref D) H) ∨ (J.go i H ∧ ∃ N : List V → Hp → Prop, (∀ ys' H', N ys' H' → ∃ m', m' < m ∧ W (i + 1) m' ys' H') ∧
    ∀ x H', J.yld i H x H' → g x (List.replicate k none ++ σ) H' (kC1 k tt te σ D ys N))
theorem m_tComp (k : Nat) (wi : TI) (g : TG) (tt : TT) (te : TE) (σ : St) (H : Hp) (Q : VK) : tComp k wi g tt te σ H Q = wi σ H (kComp k g tt te σ Q) := rfl
def kSetC (i : Nat) (σ : St) (nx : St → Hp → Prop) : VK := fun x H => gName i x σ H nx
theorem m_kSetC (i : Nat) (σ : St) (nx : St → Hp → Prop) (x : V) (H : Hp) : kSetC i σ nx x H = gName i x σ H nx := rfl
theorem m_tSetC (i : Nat) (te : TE) (nx : St → Hp → Prop) (rt : VK) (bk ct : St → Hp → Prop) (σ : St) (H : Hp) : tSetC i te ⟨nx, rt, bk, ct⟩ σ H = te σ H (kSetC i σ nx) := rfl
section
variable {k : Nat} {g : TG} {tt : TT} {te : TE} {σ : St} {Q : VK} {H : Hp} {K : PySem.W.Frag}
end
/-! ### == of data, run by the machine -/
def allSome {α : Type} : List (Option α) → Option (List α)
  | [] => some []
  | o :: r => o.bind fun x => (allSome r).map fun xs => x :: xs
def datO (f : V → Option PyData) : HO → Option PyData
  | .lst xs => (allSome (xs.map f)).map .list
  | .tup xs => (allSome (xs.map f)).map .tuple
  | _ => none
def datF (H : Hp) (f : V → Option PyData) : V → Option PyData
  | .non => some .none
  | .bl b => some (.bool b)
  | .int i => some (.int i)
  | .str z => if PyData.strOk z = true then some (.str z) else none
  | .ref p => (H p).bind (datO f)
  | _ => none
def datV (H : Hp) : Nat → V → Option PyData
  | 0, _ => none
  | n + 1, x => datF H (datV H n) x
def noD : V → Option PyData := fun _ => none
theorem m_datV (H : Hp) (x : V) : datV H 6 x = datF H (datF H (datF H (datF H (datF H (datF H noD))))) x := rfl
theorem m_datV_str (H : Hp) (n : Nat) (z : Str) : datV H (n + 1) (.str z) = if PyData.strOk z = true then some (.str z) else none := rfl
theorem m_datV_ref (H : Hp) (n : Nat) (p : Addr) : datV H (n + 1) (.ref p) = (H p).bind (datO (datV H n)) := rfl
theorem m_datF_non (H : Hp) (f : V → Option PyData) : datF H f .non = some .none := rfl
theorem m_datF_bl (H : Hp) (f : V → Option PyData) (b : Bool) : datF H f (.bl b) = some (.bool b) := rfl
theorem m_datF_int (H : Hp) (f : V → Option PyData) (i : Int) : datF H f (.int i) = some (.int i) := rfl
theorem m_datF_str (H : Hp) (f : V → Option PyData) (z : Str) : datF H f (.str z) = if PyData.strOk z = true then some (.str z) else none := rfl
theorem m_datF_ref (H : Hp) (f : V → Option PyData) (p : Addr) : datF H f (.ref p) = (H p).bind (datO f) := rfl
theorem m_datO_lst (f : V → Option PyData) (xs : List V) : datO f (.lst xs) = (allSome (xs.map f)).map .list := rfl
theorem m_datO_tup (f : V → Option PyData) (xs : List V) : datO f (.tup xs) = (allSome (xs.map f)).map .tuple := rfl
theorem m_allSome_nil {α : Type} : allSome ([] : List (Option α)) = some [] := rfl
theorem m_allSome_cons {α : Type} (x : α) (r : List (Option α)) : allSome (some x :: r) = (allSome r).map fun xs => x :: xs := rfl
theorem allSome_ints (H : Hp) (f : V → Option PyData) : ∀ ns : List Int, allSome ((ns.map V.int).map (datF H f)) = some (ns.map PyData.int)
  | [] => rfl
  | i :: r => by
    show (allSome ((r.map V.int).map (datF H f))).map _ = _
    rw [allSome_ints H f r]; rfl
theorem datVs_ok {K : PySem.W.Frag} {H : Hp} {n : Nat} (ih : ∀ x d, datV H n x = some d → DatV K H x d ∧ d.canLay0 = true ∧ d.depth ≤ n) : ∀ (xs : List V) (ds : List PyData), allSome (xs.map (datV H n)) = some ds → DatVs K H xs ds ∧ PyData.canLayAll0 ds = true ∧ PyData.depthAll ds ≤ n
  | [], ds, h => by cases h; exact ⟨.nil, rfl, Nat.zero_le _⟩
  | x :: xs, ds, h => by
    have h' : (datV H n x).bind (fun d => (allSome (xs.map (datV H n))).map fun ds => d :: ds) = some ds := h
    cases e : datV H n x with
    | none => rw [e] at h'; cases h'
    | some d =>
      rw [e] at h'
      have h2 : (allSome (xs.map (datV H n))).map (fun ds => d :: ds) = some ds := h'
      cases e2 : allSome (xs.map (datV H n)) with
      | none => rw [e2] at h2; cases h2
      | some es =>
        rw [e2] at h2
        cases h2
        obtain ⟨a, b, c⟩ := ih x d e
        obtain ⟨a', b', c'⟩ := datVs_ok ih xs es e2
        exact ⟨.cons a a', by simp [PyData.canLayAll0, b, b'], by simp only [PyData.depthAll]; omega⟩
theorem datV_ok {K : PySem.W.Frag} {H : Hp} : ∀ (n : Nat) (x : V) (d : PyData), datV H n x = some d → DatV K H x d ∧ d.canLay0 = true ∧ d.depth ≤ n
  | 0, x, d, h => by cases h
  | n + 1, x, d, h => by
    cases x with
    | non => cases h; exact ⟨.non, rfl, Nat.zero_le _⟩
    | bl b => cases h; exact ⟨.bl b, rfl, Nat.zero_le _⟩
    | int i => cases h; exact ⟨.int i, rfl, Nat.zero_le _⟩
    | str z =>
      rw [m_datV_str] at h
      split at h
      · rename_i hz; cases h; exact ⟨.str z, by simpa [PyData.canLay0] using hz, Nat.zero_le _⟩
      · cases h
    | ref p =>
      rw [m_datV_ref] at h
      cases e : H p with
      | none => rw [e] at h; cases h
      | some o =>
        rw [e] at h
        have h' : datO (datV H n) o = some d := h
        cases o with
        | lst xs =>
          rw [m_datO_lst] at h'
          cases e2 : allSome (xs.map (datV H n)) with
          | none => rw [e2] at h'; cases h'
          | some ds =>
            rw [e2] at h'; cases h'
            obtain ⟨a, b, c⟩ := datVs_ok (K := K) (datV_ok n) xs ds e2
            exact ⟨.lst (SqL.of e) a, by simpa [PyData.canLay0] using b, by simp only [PyData.depth]; omega⟩
        | tup xs =>
          rw [m_datO_tup] at h'
          cases e2 : allSome (xs.map (datV H n)) with
          | none => rw [e2] at h'; cases h'
          | some ds =>
            rw [e2] at h'; cases h'
            obtain ⟨a, b, c⟩ := datVs_ok (K := K) (datV_ok n) xs ds e2
            exact ⟨.tup (SqT.of e) a, by simpa [PyData.canLay0] using b, by simp only [PyData.depth]; omega⟩
        | _ => cases h'
    | _ => cases h
theorem datV_shaped {K : PySem.W.Frag} {H : Hp} {n : Nat} {x : V} {d : PyData} (hn : n ≤ 64) (h : datV H n x = some d) : DatV K H x d ∧ SeqAt.shaped d = true := by
  obtain ⟨a, b, c⟩ := datV_ok (K := K) n x d h
  refine ⟨a, ?_⟩
  unfold SeqAt.shaped
  rw [b, decide_eq_true (show d.depth ≤ 64 by omega)]
  rfl
def kEq2 (neg : Bool) (H : Hp) (Q : VK) (d : PyData) : PyData → Prop := fun e => Q (.bl (if neg = true then !PyData.eqv d e else PyData.eqv d e)) H
theorem m_kEq2_t (H : Hp) (Q : VK) (d e : PyData) : kEq2 true H Q d e = Q (.bl (!PyData.eqv d e)) H := rfl
theorem m_kEq2_f (H : Hp) (Q : VK) (d e : PyData) : kEq2 false H Q d e = Q (.bl (PyData.eqv d e)) H := rfl
def kEq1 (neg : Bool) (y : V) (H : Hp) (Q : VK) : PyData → Prop := fun d => optK (datV H 6 y) (kEq2 neg H Q d)
theorem m_kEq1 (neg : Bool) (y : V) (H : Hp) (Q : VK) (d : PyData) : kEq1 neg y H Q d = optK (datV H 6 y) (kEq2 neg H Q d) := rfl
def qEq (neg : Bool) : R2 := fun x y H Q => if scal x y = true then Q (.bl (if neg = true then !decide (x = y) else decide (x = y))) H else optK (datV H 6 x) (kEq1 neg y H Q)
theorem m_qEq_ref (neg : Bool) (p : Addr) (y : V) (H : Hp) (Q : VK) : qEq neg (.ref p) y H Q = optK (datV H 6 (.ref p)) (kEq1 neg y H Q) := by
  show (if scal (.ref p) y = true then _ else _) = _
  rw [if_neg (by cases y <;> simp [scal])]
theorem m_qEq_refr (neg : Bool) (p : Addr) (x : V) (H : Hp) (Q : VK) : qEq neg x (.ref p) H Q = optK (datV H 6 x) (kEq1 neg (.ref p) H Q) := by
  show (if scal x (.ref p) = true then _ else _) = _
  rw [if_neg (by cases x <;> simp [scal])]
theorem m_qEq_non_non (H : Hp) (Q : VK) : qEq false V.non V.non H Q = Q (.bl (true)) H := by
  have e : decide ((V.non : V) = V.non) = true := by simp
  show Q (.bl (if false = true then !decide (V.non = V.non) else decide (V.non = V.non))) H = _
  rw [e]; rfl
theorem m_qNe_non_non (H : Hp) (Q : VK) : qEq true V.non V.non H Q = Q (.bl (!true)) H := by
  have e : decide ((V.non : V) = V.non) = true := by simp
  show Q (.bl (if true = true then !decide (V.non = V.non) else decide (V.non = V.non))) H = _
  rw [e]; rfl
theorem m_qEq_non_int (j : Int) (H : Hp) (Q : VK) : qEq false V.non (V.int j) H Q = Q (.bl (false)) H := by
  have e : decide ((V.non : V) = (V.int j)) = false := by simp
  show Q (.bl (if false = true then !decide (V.non = (V.int j)) else decide (V.non = (V.int j)))) H = _
  rw [e]; rfl
theorem m_qNe_non_int (j : Int) (H : Hp) (Q : VK) : qEq true V.non (V.int j) H Q = Q (.bl (!false)) H := by
  have e : decide ((V.non : V) = (V.int j)) = false := by simp
  show Q (.bl (if true = true then !decide (V.non = (V.int j)) else decide (V.non = (V.int j)))) H = _
  rw [e]; rfl
theorem m_qEq_non_bl (j : Bool) (H : Hp) (Q : VK) : qEq false V.non (V.bl j) H Q = Q (.bl (false)) H := by
  have e : decide ((V.non : V) = (V.bl j)) = false := by simp
  show Q (.bl (if false = true then !decide (V.non = (V.bl j)) else decide (V.non = (V.bl j)))) H = _
  rw [e]; rfl
theorem m_qNe_non_bl (j : Bool) (H : Hp) (Q : VK) : qEq true V.non (V.bl j) H Q = Q (.bl (!false)) H := by
  have e : decide ((V.non : V) = (V.bl j)) = false := by simp
  show Q (.bl (if true = true then !decide (V.non = (V.bl j)) else decide (V.non = (V.bl j)))) H = _
  rw [e]; rfl
theorem m_qEq_non_str (j : Str) (H : Hp) (Q : VK) : qEq false V.non (V.str j) H Q = Q (.bl (false)) H := by
  have e : decide ((V.non : V) = (V.str j)) = false := by simp
  show Q (.bl (if false = true then !decide (V.non = (V.str j)) else decide (V.non = (V.str j)))) H = _
  rw [e]; rfl
theorem m_qNe_non_str (j : Str) (H : Hp) (Q : VK) : qEq true V.non (V.str j) H Q = Q (.bl (!false)) H := by
  have e : decide ((V.non : V) = (V.str j)) = false := by simp
  show Q (.bl (if true = true then !decide (V.non = (V.str j)) else decide (V.non = (V.str j)))) H = _
  rw [e]; rfl
theorem m_qEq_int_non (i : Int) (H : Hp) (Q : VK) : qEq false (V.int i) V.non H Q = Q (.bl (false)) H := by
  have e : decide (((V.int i) : V) = V.non) = false := by simp
  show Q (.bl (if false = true then !decide ((V.int i) = V.non) else decide ((V.int i) = V.non))) H = _
  rw [e]; rfl
theorem m_qNe_int_non (i : Int) (H : Hp) (Q : VK) : qEq true (V.int i) V.non H Q = Q (.bl (!false)) H := by
  have e : decide (((V.int i) : V) = V.non) = false := by simp
  show Q (.bl (if true = true then !decide ((V.int i) = V.non) else decide ((V.int i) = V.non))) H = _
  rw [e]; rfl
theorem m_qEq_int_int (i : Int) (j : Int) (H : Hp) (Q : VK) : qEq false (V.int i) (V.int j) H Q = Q (.bl (decide (i = j))) H := by
  have e : decide (((V.int i) : V) = (V.int j)) = decide (i = j) := by simp
  show Q (.bl (if false = true then !decide ((V.int i) = (V.int j)) else decide ((V.int i) = (V.int j)))) H = _
  rw [e]; rfl
theorem m_qNe_int_int (i : Int) (j : Int) (H : Hp) (Q : VK) : qEq true (V.int i) (V.int j) H Q = Q (.bl (!decide (i = j))) H := by
  have e : decide (((V.int i) : V) = (V.int j)) = decide (i = j) := by simp
  show Q (.bl (if true = true then !decide ((V.int i) = (V.int j)) else decide ((V.int i) = (V.int j)))) H = _
  rw [e]; rfl
theorem m_qEq_int_str (i : Int) (j : Str) (H : Hp) (Q : VK) : qEq false (V.int i) (V.str j) H Q = Q (.bl (false)) H := by
  have e : decide (((V.int i) : V) = (V.str j)) = false := by simp
  show Q (.bl (if false = true then !decide ((V.int i) = (V.str j)) else decide ((V.int i) = (V.str j)))) H = _
  rw [e]; rfl
theorem m_qNe_int_str (i : Int) (j : Str) (H : Hp) (Q : VK) : qEq true (V.int i) (V.str j) H Q = Q (.bl (!false)) H := by
  have e : decide (((V.int i) : V) = (V.str j)) = false := by simp
  show Q (.bl (if true = true then !decide ((V.int i) = (V.str j)) else decide ((V.int i) = (V.str j)))) H = _
  rw [e]; rfl
theorem m_qEq_bl_non (i : Bool) (H : Hp) (Q : VK) : qEq false (V.bl i) V.non H Q = Q (.bl (false)) H := by
  have e : decide (((V.bl i) : V) = V.non) = false := by simp
  show Q (.bl (if false = true then !decide ((V.bl i) = V.non) else decide ((V.bl i) = V.non))) H = _
  rw [e]; rfl
theorem m_qNe_bl_non (i : Bool) (H : Hp) (Q : VK) : qEq true (V.bl i) V.non H Q = Q (.bl (!false)) H := by
  have e : decide (((V.bl i) : V) = V.non) = false := by simp
  show Q (.bl (if true = true then !decide ((V.bl i) = V.non) else decide ((V.bl i) = V.non))) H = _
  rw [e]; rfl
theorem m_qEq_bl_bl (i : Bool) (j : Bool) (H : Hp) (Q : VK) : qEq false (V.bl i) (V.bl j) H Q = Q (.bl (decide (i = j))) H := by
  have e : decide (((V.bl i) : V) = (V.bl j)) = decide (i = j) := by simp
  show Q (.bl (if false = true then !decide ((V.bl i) = (V.bl j)) else decide ((V.bl i) = (V.bl j)))) H = _
  rw [e]; rfl
theorem m_qNe_bl_bl (i : Bool) (j : Bool) (H : Hp) (Q : VK) : qEq true (V.bl i) (V.bl j) H Q = Q (.bl (!decide (i = j))) H := by
  have e : decide (((V.bl i) : V) = (V.bl j)) = decide (i = j) := by simp
  show Q (.bl (if true = true then !decide ((V.bl i) = (V.bl j)) else decide ((V.bl i) = (V.bl j)))) H = _
  rw [e]; rfl
theorem m_qEq_bl_str (i : Bool) (j : Str) (H : Hp) (Q : VK) : qEq false (V.bl i) (V.str j) H Q = Q (.bl (false)) H := by
  have e : decide (((V.bl i) : V) = (V.str j)) = false := by simp
  show Q (.bl (if false = true then !decide ((V.bl i) = (V.str j)) else decide ((V.bl i) = (V.str j)))) H = _
  rw [e]; rfl
theorem m_qNe_bl_str (i : Bool) (j : Str) (H : Hp) (Q : VK) : qEq true (V.bl i) (V.str j) H Q = Q (.bl (!false)) H := by
  have e : decide (((V.bl i) : V) = (V.str j)) = false := by simp
  show Q (.bl (if true = true then !decide ((V.bl i) = (V.str j)) else decide ((V.bl i) = (V.str j)))) H = _
  rw [e]; rfl
theorem m_qEq_str_non (i : Str) (H : Hp) (Q : VK) : qEq false (V.str i) V.non H Q = Q (.bl (false)) H := by
  have e : decide (((V.str i) : V) = V.non) = false := by simp
  show Q (.bl (if false = true then !decide ((V.str i) = V.non) else decide ((V.str i) = V.non))) H = _
  rw [e]; rfl
theorem m_qNe_str_non (i : Str) (H : Hp) (Q : VK) : qEq true (V.str i) V.non H Q = Q (.bl (!false)) H := by
  have e : decide (((V.str i) : V) = V.non) = false := by simp
  show Q (.bl (if true = true then !decide ((V.str i) = V.non) else decide ((V.str i) = V.non))) H = _
  rw [e]; rfl
theorem m_qEq_str_int (i : Str) (j : Int) (H : Hp) (Q : VK) : qEq false (V.str i) (V.int j) H Q = Q (.bl (false)) H := by
  have e : decide (((V.str i) : V) = (V.int j)) = false := by simp
  show Q (.bl (if false = true then !decide ((V.str i) = (V.int j)) else decide ((V.str i) = (V.int j)))) H = _
  rw [e]; rfl
theorem m_qNe_str_int (i : Str) (j : Int) (H : Hp) (Q : VK) : qEq true (V.str i) (V.int j) H Q = Q (.bl (!false)) H := by
  have e : decide (((V.str i) : V) = (V.int j)) = false := by simp
  show Q (.bl (if true = true then !decide ((V.str i) = (V.int j)) else decide ((V.str i) = (V.int j)))) H = _
  rw [e]; rfl
theorem m_qEq_str_bl (i : Str) (j : Bool) (H : Hp) (Q : VK) : qEq false (V.str i) (V.bl j) H Q = Q (.bl (false)) H := by
  have e : decide (((V.str i) : V) = (V.bl j)) = false := by simp
  show Q (.bl (if false = true then !decide ((V.str i) = (V.bl j)) else decide ((V.str i) = (V.bl j)))) H = _
  rw [e]; rfl
theorem m_qNe_str_bl (i : Str) (j : Bool) (H : Hp) (Q : VK) : qEq true (V.str i) (V.bl j) H Q = Q (.bl (!false)) H := by
  have e : decide (((V.str i) : V) = (V.bl j)) = false := by simp
  show Q (.bl (if true = true then !decide ((V.str i) = (V.bl j)) else decide ((V.str i) = (V.bl j)))) H = _
  rw [e]; rfl
theorem m_qEq_str_str (i : Str) (j : Str) (H : Hp) (Q : VK) : qEq false (V.str i) (V.str j) H Q = Q (.bl (decide (i = j))) H := by
  have e : decide (((V.str i) : V) = (V.str j)) = decide (i = j) := by simp
  show Q (.bl (if false = true then !decide ((V.str i) = (V.str j)) else decide ((V.str i) = (V.str j)))) H = _
  rw [e]; rfl
theorem m_qNe_str_str (i : Str) (j : Str) (H : Hp) (Q : VK) : qEq true (V.str i) (V.str j) H Q = Q (.bl (!decide (i = j))) H := by
  have e : decide (((V.str i) : V) = (V.str j)) = decide (i = j) := by simp
  show Q (.bl (if true = true then !decide ((V.str i) = (V.str j)) else decide ((V.str i) = (V.str j)))) H = _
  rw [e]; rfl
section
variable {X : Cx}
theorem op_qEq (hu : X.A.units + 64 < cLine) : OpR X (compareOp .Eq) (qEq false) := by
  refine (op_eq.or (op_eqD hu)).mono fun x y H Q h => ?_
  unfold qEq at h
  split at h
  · rename_i hs; exact .inl ⟨hs, h⟩
  obtain ⟨d, e1, h⟩ := optK_ex h
  obtain ⟨e, e2, h⟩ := optK_ex h
  obtain ⟨a, b⟩ := datV_shaped (K := X.K) (by decide) e1
  obtain ⟨a', b'⟩ := datV_shaped (K := X.K) (by decide) e2
  exact .inr ⟨d, e, a, a', b, b', h⟩
theorem op_qNe (hu : X.A.units + 64 < cLine) : OpR X (compareOp .NotEq) (qEq true) := by
  refine (op_ne.or (op_neD hu)).mono fun x y H Q h => ?_
  unfold qEq at h
  split at h
  · rename_i hs; exact .inl ⟨hs, h⟩
  obtain ⟨d, e1, h⟩ := optK_ex h
  obtain ⟨e, e2, h⟩ := optK_ex h
  obtain ⟨a, b⟩ := datV_shaped (K := X.K) (by decide) e1
  obtain ⟨a', b'⟩ := datV_shaped (K := X.K) (by decide) e2
  exact .inr ⟨d, e, a, a', b, b', h⟩
end
theorem eqv_int (i j : Int) : PyData.eqv (.int i) (.int j) = decide (i = j) := Bool.beq_eq_decide_eq i j
theorem eqv_bool (i j : Bool) : PyData.eqv (.bool i) (.bool j) = decide (i = j) := by cases i <;> cases j <;> rfl
theorem eqv_str (i j : Str) : PyData.eqv (.str i) (.str j) = (i == j) := rfl
theorem eqv_none : PyData.eqv .none .none = true := rfl
theorem eqv_tuple (xs ys : List PyData) : PyData.eqv (.tuple xs) (.tuple ys) = PyData.eqvAll xs ys := by simp only [PyData.eqv]
theorem eqv_list (xs ys : List PyData) : PyData.eqv (.list xs) (.list ys) = PyData.eqvAll xs ys := by simp only [PyData.eqv]
theorem eqvAll_nil : PyData.eqvAll [] [] = true := by simp only [PyData.eqvAll]
theorem eqvAll_cons (x y : PyData) (xs ys : List PyData) : PyData.eqvAll (x :: xs) (y :: ys) = (PyData.eqv x y && PyData.eqvAll xs ys) := by simp only [PyData.eqvAll]
theorem eqvAll_l (x : PyData) (xs : List PyData) : PyData.eqvAll (x :: xs) [] = false := by simp only [PyData.eqvAll]
theorem eqvAll_r (x : PyData) (xs : List PyData) : PyData.eqvAll [] (x :: xs) = false := by simp only [PyData.eqvAll]
theorem eqvAll_ints : ∀ ns ms : List Int, PyData.eqvAll (ns.map PyData.int) (ms.map PyData.int) = decide (ns = ms)
  | [], [] => by rw [List.map_nil, eqvAll_nil]; rfl
  | [], _ :: _ => by rw [List.map_nil, List.map_cons, eqvAll_r]; rfl
  | _ :: _, [] => by rw [List.map_nil, List.map_cons, eqvAll_l]; rfl
  | i :: r, j :: t => by
    rw [List.map_cons, List.map_cons, eqvAll_cons, eqv_int, eqvAll_ints r t]
    by_cases h : i = j <;> by_cases h2 : r = t <;> simp [h, h2]
end L2

set_option Elab.async false
set_option linter.all false
set_option maxRecDepth 100000
set_option maxHeartbeats 4000000
namespace L2
open PySem PySem.Spec PyProof.Rows
/-! ### what the machine is told of numbers and heaps -/
theorem CDiv_eq (i j : Int) : CDiv i j = (0 < j ∧ j < 1073741824) := rfl
theorem CMul_l (i j : Int) (h : -18446744073709551616 < i) (h' : i < 18446744073709551616) : CMul i j = True := eq_true (.inl ⟨by omega, by omega⟩)
theorem CMul_r (i j : Int) (h : -18446744073709551616 < j) (h' : j < 18446744073709551616) : CMul i j = True := eq_true (.inr ⟨by omega, by omega⟩)
theorem CPow_10 (j : Int) : CPow 10 j = (0 ≤ j ∧ j ≤ 1000000) := propext ⟨fun h => ⟨h.1, h.2.1⟩, fun h => ⟨h.1, h.2, by decide⟩⟩
theorem CPow_2 (j : Int) : CPow 2 j = (0 ≤ j ∧ j ≤ 1000000) := propext ⟨fun h => ⟨h.1, h.2.1⟩, fun h => ⟨h.1, h.2, by decide⟩⟩
theorem lenLe (n : Nat) (h : n ≤ 1000) : (n ≤ sizeLine) = True := eq_true (Nat.le_of_lt (small1000 h))
theorem lenLt (n : Nat) (h : n ≤ 1000) : (n < sizeLine) = True := eq_true (small1000 h)
theorem SqL_upd (K : PySem.W.Frag) (H : Hp) (p a : Addr) (o : HO) (xs : List V) (hp : H p = none) (h : SqL K H a xs) : SqL K (upd H p o) a xs = True := eq_true ((same_upd hp).seq h)
theorem Ext.of {H H' : Hp} (h : ∀ a, (H a).isSome = true → H' a = H a) : Ext H H' := ⟨h, fun K a xs q => by
  have s : Same H H' := fun b o e => (h b (by rw [e]; rfl)).trans e
  exact s.seq q⟩
theorem Ext.same {H H' : Hp} (h : Ext H H') : Same H H' := fun b o e => (h.1 b (by rw [e]; rfl)).trans e
theorem Same.ext {H H' : Hp} (h : Same H H') : Ext H H' := Ext.of fun a q => by
  cases e : H a with
  | none => rw [e] at q; cases q
  | some o => exact h a o e
theorem Ext.refl (H : Hp) : Ext H H := (Same.refl H).ext
theorem Ext.trans {H H1 H2 : Hp} (a : Ext H H1) (b : Ext H1 H2) : Ext H H2 := (a.same.trans b.same).ext
theorem Ext.new {H : Hp} {p : Addr} {o : HO} (h : H p = none) : Ext H (upd H p o) := (same_upd h).ext
theorem Ext.put {H H1 : Hp} {p : Addr} {o : HO} (a : Ext H H1) (h : H p = none) : Ext H (upd H1 p o) := Same.ext fun b u e => by
  rw [upd_ne (ne_of_none e h)]; exact a.same b u e
theorem Ext.free {H H1 : Hp} {p : Addr} (a : Ext H H1) (h : H1 p = none) : H p = none := a.same.free h
theorem Ext.at {H H1 : Hp} {p : Addr} {o : HO} (a : Ext H H1) (h : H p = some o) : H1 p = some o := a.same _ _ h
theorem optK_at {xs : List V} {i : Int} {k : V → Prop} (h0 : 0 ≤ i) (h1 : i < xs.length) (h : ∀ v ∈ xs, k v) : optK (atI xs i) k := by
  obtain ⟨v, e, m⟩ := atI_lt xs i h0 h1
  rw [e]; exact h v m
theorem cx_K (CX : CXT) (P : Program) (w : World) (K : PySem.W.Frag) (mg : Str → Option Value) (base : Heap) (N : List Str) (qual : Str) (scope : Scope) (f : Addr) (cd : Value) (A : Around) (outer : List Env) (s : Shared) (H : Hp) (E : XK) : (cxOf CX P w K mg base N qual scope f cd A outer s H E).K = K := rfl
theorem call_qIsE' {X : Cx} {K : PySem.W.Frag} (h : X.K = K) : CallR X (.builtin "isinstance") (qIsE K) := h ▸ call_qIsE
theorem map_toNat_inj : ∀ {a b : List Char}, a.map Char.toNat = b.map Char.toNat → a = b
  | [], [], _ => rfl
  | [], _ :: _, h => by cases h
  | _ :: _, [], h => by cases h
  | x :: r, y :: q, h => by
    simp only [List.map_cons, List.cons.injEq] at h
    have e : x = y := by
      have z : x.val.toNat = y.val.toNat := h.1
      exact Char.ext (UInt32.toNat_inj.mp z)
    rw [e, map_toNat_inj h.2]
theorem ofString_inj (a b : String) : (Str.ofString a = Str.ofString b) = (a = b) := by
  refine propext ⟨fun h => ?_, fun h => by rw [h]⟩
  rw [Str.ofString_eq_toList, Str.ofString_eq_toList] at h
  have e : (a.toList.map Char.toNat).toArray = (b.toList.map Char.toNat).toArray := congrArg Str.cps h
  have e2 := map_toNat_inj (congrArg Array.toList e)
  exact String.ext e2
theorem cls_some {K : PySem.W.Frag} {C : Addr} (h : PySem.W.hasDictIn K C = true) : (PySem.W.clsIn K C).isSome = true := by
  obtain ⟨cd, hc, _⟩ := PySem.W.any_some h
  rw [hc]; rfl
theorem kit_no {K : PySem.W.Frag} {A C : Addr} (h0 : (A == C) = false) (h1 : PySem.W.hasDictIn K C = true) (h2 : PySem.W.typeIn K (.ref C) = some (.type "type")) (h3 : PySem.W.subIn K (.ref A) (.ref C) = some false) : PySem.W.kitOne K (.ref A) (.ref C) = some false := by
  unfold PySem.W.kitOne
  rw [if_neg (by intro z; have e : A = C := Value.ref.inj (beq_iff_eq.mp z); rw [e] at h0; simp at h0)]
  show (if _ then _ else _) = _
  rw [cls_some h1, h2, if_pos (by decide), h3]
theorem kit_ty {K : PySem.W.Frag} {A : Addr} {n : String} {b : Bool} (h1 : PySem.W.kitMeta n = true) (h3 : PySem.W.subIn K (.ref A) (.type n) = some b) : PySem.W.kitOne K (.ref A) (.type n) = some b := by
  unfold PySem.W.kitOne
  rw [if_neg (by intro z; have e := beq_iff_eq.mp z; cases e)]
  show (if _ then _ else _) = _
  rw [if_pos h1, h3]
/-- is it a whole number -/
def isW (H : Hp) : V → Option Bool
  | .int _ => some true
  | .bl _ => some false
  | .non => some false
  | .str _ => some false
  | .ref p => ((H p).bind tyO).map fun _ => false
  | _ => none
theorem isW_int' (H : Hp) (i : Int) : isW H (.int i) = some true := rfl
theorem isW_bl' (H : Hp) (i : Bool) : isW H (.bl i) = some false := rfl
theorem isW_non' (H : Hp) : isW H .non = some false := rfl
theorem isW_str' (H : Hp) (i : Str) : isW H (.str i) = some false := rfl
theorem isW_ref' (H : Hp) (p : Addr) : isW H (.ref p) = ((H p).bind tyO).map fun _ => false := rfl
theorem isW_obj {H : Hp} {p : Addr} {b : Bool} (h : isW H (.ref p) = some b) : b = false ∧ ∃ o, H p = some o ∧ (tyO o = some "list" ∨ tyO o = some "tuple" ∨ tyO o = some "dict") := by
  rw [isW_ref'] at h
  cases e : H p with
  | none => rw [e] at h; cases h
  | some o =>
    rw [e] at h
    have h' : (tyO o).map (fun _ => false) = some b := h
    cases e2 : tyO o with
    | none => rw [e2] at h'; cases h'
    | some t =>
      rw [e2] at h'; cases h'
      refine ⟨rfl, o, rfl, ?_⟩
      cases o with
      | lst xs => exact .inl rfl
      | tup xs => exact .inr (.inl rfl)
      | dK xs => exact .inr (.inr rfl)
      | dT xs => exact .inr (.inr rfl)
      | frz ob u => cases u with
        | lst xs => exact .inl rfl
        | _ => cases e2
      | _ => cases e2
theorem exO_non {P : Option Int → Prop} : (∃ a, V.non = oV a ∧ P a) = P none := propext ⟨(fun ⟨a, e, h⟩ => by cases a with | none => exact h | some i => cases e), fun h => ⟨none, rfl, h⟩⟩
theorem exO_int {P : Option Int → Prop} (i : Int) : (∃ a, V.int i = oV a ∧ P a) = P (some i) := propext ⟨(fun ⟨a, e, h⟩ => by cases a with | none => cases e | some j => cases e; exact h), fun h => ⟨some i, rfl, h⟩⟩
theorem oV_inj {a b : Option Int} (h : oV a = oV b) : a = b := by
  cases a <;> cases b
  · rfl
  · cases h
  · cases h
  · cases h; rfl
theorem exO_o {P : Option Int → Prop} (b : Option Int) : (∃ a, oV b = oV a ∧ P a) = P b := propext ⟨fun ⟨a, e, h⟩ => by cases oV_inj e; exact h, fun h => ⟨b, rfl, h⟩⟩
end L2

set_option Elab.async false
set_option linter.all false
set_option maxRecDepth 100000
set_option maxHeartbeats 4000000
namespace L2
open PySem PySem.Spec PyProof.Rows
/-! ### readings are monotone -/
theorem optK_mono {α : Type} {o : Option α} {k k' : α → Prop} (m : ∀ x, k x → k' x) (h : optK o k) : optK o k' := by
  obtain ⟨x, e, q⟩ := optK_ex h
  rw [e]; exact m x q
/-! ### lists of ints -/
theorem ints_inj : ∀ {ns ms : List Int}, ns.map V.int = ms.map V.int → ns = ms
  | [], [], _ => rfl
  | [], _ :: _, h => by cases h
  | _ :: _, [], h => by cases h
  | i :: r, j :: t, h => by
    simp only [List.map_cons, List.cons.injEq, V.int.injEq] at h
    rw [h.1, ints_inj h.2]
def kInts (F : List Int → Prop) : List V → Prop := fun xs => ∃ ns, xs = ns.map V.int ∧ F ns
theorem m_kInts (F : List Int → Prop) (ns : List Int) : kInts F (ns.map V.int) = F ns := propext ⟨fun ⟨ms, e, h⟩ => by rw [ints_inj e]; exact h, fun h => ⟨ns, rfl, h⟩⟩
theorem m_kInts_nil (F : List Int → Prop) : kInts F [] = F [] := m_kInts F []
theorem m_kInts_1 (F : List Int → Prop) (a : Int) : kInts F [.int a] = F [a] := m_kInts F [a]
theorem m_kInts_2 (F : List Int → Prop) (a b : Int) : kInts F [.int a, .int b] = F [a, b] := m_kInts F [a, b]
theorem m_kInts_3 (F : List Int → Prop) (a b c : Int) : kInts F [.int a, .int b, .int c] = F [a, b, c] := m_kInts F [a, b, c]
theorem CMulB_of (i j : Int) (h : i.natAbs < 2 ^ 256) (h' : j.natAbs < 2 ^ 256) : CMulB i j = True := eq_true ⟨h, h'⟩
/-! ### slices -/
def kSlN (lo hi : Option Int) (H : Hp) (Q : VK) : List V → Prop := fun xs => ∀ p, H p = none → Q (.ref p) (upd H p (.lst (cutV xs lo hi)))
theorem m_kSlN (lo hi : Option Int) (H : Hp) (Q : VK) (xs : List V) : kSlN lo hi H Q xs = (∀ p, H p = none → Q (.ref p) (upd H p (.lst (cutV xs lo hi)))) := rfl
def qSlL : V → Option Int → Option Int → Hp → VK → Prop := fun x lo hi H Q => match x with
  | .ref a => optK (lstAt H a) (kSlN lo hi H Q)
  | _ => False
theorem m_qSlL (a : Addr) (lo hi : Option Int) (H : Hp) (Q : VK) : qSlL (.ref a) lo hi H Q = optK (lstAt H a) (kSlN lo hi H Q) := rfl
def kSl3 (r : V → Option Int → Option Int → Hp → VK → Prop) (x : V) (l : Option Int) (Q : VK) : Option Int → Hp → Prop := fun u H => r x l u H Q
theorem m_kSl3 (r : V → Option Int → Option Int → Hp → VK → Prop) (x : V) (l : Option Int) (Q : VK) (u : Option Int) (H : Hp) : kSl3 r x l Q u H = r x l u H Q := rfl
def kSl2 (r : V → Option Int → Option Int → Hp → VK → Prop) (th : TO) (σ : St) (x : V) (Q : VK) : Option Int → Hp → Prop := fun l H => th σ H (kSl3 r x l Q)
theorem m_kSl2 (r : V → Option Int → Option Int → Hp → VK → Prop) (th : TO) (σ : St) (x : V) (Q : VK) (l : Option Int) (H : Hp) : kSl2 r th σ x Q l H = th σ H (kSl3 r x l Q) := rfl
def kSl1 (r : V → Option Int → Option Int → Hp → VK → Prop) (tl th : TO) (σ : St) (Q : VK) : VK := fun x H => tl σ H (kSl2 r th σ x Q)
theorem m_kSl1 (r : V → Option Int → Option Int → Hp → VK → Prop) (tl th : TO) (σ : St) (Q : VK) (x : V) (H : Hp) : kSl1 r tl th σ Q x H = tl σ H (kSl2 r th σ x Q) := rfl
theorem m_tSl (r : V → Option Int → Option Int → Hp → VK → Prop) (te : TE) (tl th : TO) (σ : St) (H : Hp) (Q : VK) : tSl r te tl th σ H Q = te σ H (kSl1 r tl th σ Q) := rfl
theorem m_tNoPart (σ : St) (H : Hp) (Q : Option Int → Hp → Prop) : tNoPart σ H Q = Q none H := rfl
def kPart (Q : Option Int → Hp → Prop) : VK := fun x H => ∃ i, x = .int i ∧ Q (some i) H
theorem m_kPart (Q : Option Int → Hp → Prop) (i : Int) (H : Hp) : kPart Q (.int i) H = Q (some i) H := propext ⟨fun ⟨_, e, q⟩ => by cases e; exact q, fun q => ⟨i, rfl, q⟩⟩
theorem m_tPart (t : TE) (σ : St) (H : Hp) (Q : Option Int → Hp → Prop) : tPart t σ H Q = t σ H (kPart Q) := rfl
/-! ### new dicts -/
theorem m_tDNewK (σ : St) (H : Hp) (Q : VK) : tDNewK σ H Q = (∀ p, H p = none → Q (.ref p) (upd H p (.dK []))) := rfl
def kD2 (x : V) (p : Addr) (Q : VK) : VK := fun y H => H p = some (.dK []) ∧ ∃ kvs : List (Key × V), [(x, y)] = kvs.map (fun kv => (kV kv.1, kv.2)) ∧ kvs.length ≤ 15 ∧ Q (.ref p) (upd H p (.dK (mergeK [] kvs)))
theorem m_kD2 (n : Int) (p : Addr) (Q : VK) (y : V) (H : Hp) : kD2 (.int n) p Q y H = (H p = some (.dK []) ∧ Q (.ref p) (upd H p (.dK [(Sum.inl n, y)]))) := by
  refine propext ⟨fun ⟨h, kvs, e, hl, q⟩ => ⟨h, ?_⟩, fun ⟨h, q⟩ => ⟨h, [(Sum.inl n, y)], rfl, by simp, q⟩⟩
  cases kvs with
  | nil => cases e
  | cons kv r =>
    cases r with
    | cons _ _ => simp at e
    | nil =>
      obtain ⟨k, v⟩ := kv
      cases k with
      | inl m => cases e; exact q
      | inr z => cases e
def kD1 (tv : TE) (σ : St) (p : Addr) (Q : VK) : VK := fun x H => tv σ H (kD2 x p Q)
theorem m_kD1 (tv : TE) (σ : St) (p : Addr) (Q : VK) (x : V) (H : Hp) : kD1 tv σ p Q x H = tv σ H (kD2 x p Q) := rfl
theorem m_tDisp (tk tv : TE) (σ : St) (H : Hp) (Q : VK) : tDisp [(tk, tv)] σ H Q = (∀ p, H p = none → tk σ (upd H p (.dK [])) (kD1 tv σ p Q)) := rfl
end L2

set_option Elab.async false
set_option linter.all false
set_option maxRecDepth 100000
set_option maxHeartbeats 4000000
namespace L2
open PySem PySem.Spec PyProof.Rows
/-! ### what is made stands in a new heap, by its facts alone -/
def newK (o : HO) (H : Hp) (Q : VK) : Prop := ∀ (p : Addr) (H' : Hp), H p = none → Ext H H' → H' p = some o → Q (.ref p) H'
theorem m_newK (o : HO) (H : Hp) (Q : VK) : newK o H Q = ∀ (p : Addr) (H' : Hp), H p = none → Ext H H' → H' p = some o → Q (.ref p) H' := rfl
theorem newK.to {o : HO} {H : Hp} {Q : VK} (h : newK o H Q) : ∀ p, H p = none → Q (.ref p) (upd H p o) := fun p hp => h p _ hp (Ext.new hp) upd_same
def kQT (Q : VK) : List V → Hp → Prop := fun xs H => xs.length ≤ sizeLine ∧ newK (.tup xs) H Q
theorem m_kQT (Q : VK) (xs : List V) (H : Hp) : kQT Q xs H = (xs.length ≤ sizeLine ∧ newK (.tup xs) H Q) := rfl
def kQL (Q : VK) : List V → Hp → Prop := fun xs H => xs.length ≤ sizeLine ∧ newK (.lst xs) H Q
theorem m_kQL (Q : VK) (xs : List V) (H : Hp) : kQL Q xs H = (xs.length ≤ sizeLine ∧ newK (.lst xs) H Q) := rfl
def qTup (t : TA) : TE := fun σ H Q => t σ H (kQT Q)
theorem m_qTup (t : TA) (σ : St) (H : Hp) (Q : VK) : qTup t σ H Q = t σ H (kQT Q) := rfl
def qLst (t : TA) : TE := fun σ H Q => t σ H (kQL Q)
theorem m_qLst (t : TA) (σ : St) (H : Hp) (Q : VK) : qLst t σ H Q = t σ H (kQL Q) := rfl
section
variable {X : Cx} {es : List Expr} {t : TA} {pos : Pos}
theorem pe_qTup {x1} (h : PA X es t) : PE X (.Tuple es x1 pos) (qTup t) := by
  intro pins s σ H Q I hq
  refine wpAny_Tuple_spliced (thn (h pos pins s σ H _ I hq) fun us s1 ⟨xs, H1, I1, r, z, q⟩ => ⟨by rw [← r.length]; exact z, ?_⟩)
  have hf : H1 s1.heap.objs.size = none := I1.hok.fresh (Nat.le_refl _)
  refine ⟨.ref s1.heap.objs.size, upd H1 s1.heap.objs.size (.tup xs), I1.laid (t' := s1.toks) (fun b u e => Heap.get?_push_of_some _ e) (Nat.le_refl _) ?_, rfl, q.to _ hf⟩
  exact ⟨z, us, r, ⟨_, Heap.get?_push_size _ rfl, rfl, _, rfl⟩⟩
theorem pe_qLst (h : PA X es t) : PE X (.List es pos) (qLst t) := by
  intro pins s σ H Q I hq
  refine wpAny_List_spliced (thn (h pos pins s σ H _ I hq) fun us s1 ⟨xs, H1, I1, r, z, q⟩ => ⟨by rw [← r.length]; exact z, ?_⟩)
  have hf : H1 s1.heap.objs.size = none := I1.hok.fresh (Nat.le_refl _)
  refine ⟨.ref s1.heap.objs.size, upd H1 s1.heap.objs.size (.lst xs), I1.laid (t' := s1.toks) (fun b u e => Heap.get?_push_of_some _ e) (Nat.le_refl _) ?_, rfl, q.to _ hf⟩
  exact ⟨z, us, 0, r, Heap.get?_push_size _ rfl⟩
end
/-! list(..), tuple(..) -/
def kN (f : List V → HO) (H : Hp) (Q : VK) : List V → Prop := fun ys => newK (f ys) H Q
theorem m_kN (f : List V → HO) (H : Hp) (Q : VK) (ys : List V) : kN f H Q ys = newK (f ys) H Q := rfl
def nList (xs : List V) (H : Hp) (Q : VK) : Prop := match xs with
  | [.ref p] => optK (itemsAt H p) (kN .lst H Q)
  | _ => False
theorem m_nList (p : Addr) (H : Hp) (Q : VK) : nList [.ref p] H Q = optK (itemsAt H p) (kN .lst H Q) := rfl
theorem call_nList {X : Cx} : CallR X (.type "list") nList := call_qList.mono fun xs H Q h => by
  unfold nList at h
  split at h
  · exact optK_mono (fun _ q => q.to) h
  · exact h.elim
def kNT (p : Addr) (H : Hp) (Q : VK) : HO → Prop := fun o => match o with
  | .lst ys => newK (.tup ys) H Q
  | .tup _ => Q (.ref p) H
  | _ => False
theorem m_kNT_l (p : Addr) (H : Hp) (Q : VK) (ys : List V) : kNT p H Q (.lst ys) = newK (.tup ys) H Q := rfl
theorem m_kNT_t (p : Addr) (H : Hp) (Q : VK) (ys : List V) : kNT p H Q (.tup ys) = Q (.ref p) H := rfl
def nTuple (xs : List V) (H : Hp) (Q : VK) : Prop := match xs with
  | [.ref p] => optK (H p) (kNT p H Q)
  | _ => False
theorem m_nTuple (p : Addr) (H : Hp) (Q : VK) : nTuple [.ref p] H Q = optK (H p) (kNT p H Q) := rfl
theorem call_nTuple {X : Cx} : CallR X (.type "tuple") nTuple := call_qTuple.mono fun xs H Q h => by
  unfold nTuple at h
  split at h
  · refine optK_mono (fun o q => ?_) h
    unfold kNT at q
    unfold kTupO
    split at q
    · exact q.to
    · exact q
    · exact q.elim
  · exact h.elim
/-! + of two lists, slices -/
def kNC2 (xs : List V) (H : Hp) (Q : VK) : List V → Prop := fun ys => xs.length + ys.length ≤ sizeLine ∧ newK (.lst (xs ++ ys)) H Q
theorem m_kNC2 (xs : List V) (H : Hp) (Q : VK) (ys : List V) : kNC2 xs H Q ys = (xs.length + ys.length ≤ sizeLine ∧ newK (.lst (xs ++ ys)) H Q) := rfl
def kNC1 (b : Addr) (H : Hp) (Q : VK) : List V → Prop := fun xs => optK (lstAt H b) (kNC2 xs H Q)
theorem m_kNC1 (b : Addr) (H : Hp) (Q : VK) (xs : List V) : kNC1 b H Q xs = optK (lstAt H b) (kNC2 xs H Q) := rfl
def nCat : R2 := fun x y H Q => match x, y with
  | .ref l, .ref b => optK (lstAt H l) (kNC1 b H Q)
  | _, _ => False
theorem m_nCat (l b : Addr) (H : Hp) (Q : VK) : nCat (.ref l) (.ref b) H Q = optK (lstAt H l) (kNC1 b H Q) := rfl
theorem op_nCat {X : Cx} : OpR X (binaryOp .Add) nCat := op_cat.mono fun x y H Q h => by
  unfold nCat at h
  split at h
  · rw [m_rCat]
    exact optK_mono (fun _ q => optK_mono (fun _ q => ⟨q.1, q.2.to⟩) q) h
  · exact h.elim
def kNS (lo hi : Option Int) (H : Hp) (Q : VK) : List V → Prop := fun xs => newK (.lst (cutV xs lo hi)) H Q
theorem m_kNS (lo hi : Option Int) (H : Hp) (Q : VK) (xs : List V) : kNS lo hi H Q xs = newK (.lst (cutV xs lo hi)) H Q := rfl
def nSl : V → Option Int → Option Int → Hp → VK → Prop := fun x lo hi H Q => match x with
  | .ref a => optK (lstAt H a) (kNS lo hi H Q)
  | _ => False
theorem m_nSl (a : Addr) (lo hi : Option Int) (H : Hp) (Q : VK) : nSl (.ref a) lo hi H Q = optK (lstAt H a) (kNS lo hi H Q) := rfl
theorem PE.mono {X : Cx} {e : Expr} {t t' : TE} (h : PE X e t) (m : ∀ σ H Q, t' σ H Q → t σ H Q) : PE X e t' := fun pins s σ H Q I q => h pins s σ H Q I (m _ _ _ q)
def nDNew : TE := fun _ H Q => newK (.dK []) H Q
theorem m_nDNew (σ : St) (H : Hp) (Q : VK) : nDNew σ H Q = newK (.dK []) H Q := rfl
end L2

set_option Elab.async false
set_option linter.all false
set_option maxRecDepth 100000
set_option maxHeartbeats 4000000
namespace L2
open PySem PySem.Spec PyProof.Rows
/-! ### a, b, c = a list -/
section
variable {prog : Program} {w : World} {A : Around} {E : Value → Shared → Prop} {s : Shared}
end
section
variable {X : Cx} {pos : Pos}
def qGL (n : Nat) (t : TGs) : TG := fun v σ H Q => match v with
  | .ref a => optK (lstAt H a) (kGT n t σ H Q)
  | _ => False
theorem m_qGL (n : Nat) (t : TGs) (a : Addr) (σ : St) (H : Hp) (Q : St → Hp → Prop) : qGL n t (.ref a) σ H Q = optK (lstAt H a) (kGT n t σ H Q) := rfl
/-! ### keywords in a try -/
def tCallKX (sp : Sp) (gV : List V → List V → List V) (E : St → XK) (t tk : TA) : TE := fun σ H Q => t σ H fun vs H1 => tk σ H1 fun zs H2 => sp (gV vs zs) H2 Q (E σ)
def kCK1 (sp : Sp) (gV : List V → List V → List V) (E : XK) (vs : List V) (Q : VK) : List V → Hp → Prop := fun zs H => sp (gV vs zs) H Q E
def kCK0 (sp : Sp) (gV : List V → List V → List V) (E : XK) (tk : TA) (σ : St) (Q : VK) : List V → Hp → Prop := fun vs H => tk σ H (kCK1 sp gV E vs Q)
theorem m_tCallKX (sp : Sp) (gV : List V → List V → List V) (E : St → XK) (t tk : TA) (σ : St) (H : Hp) (Q : VK) : tCallKX sp gV E t tk σ H Q = t σ H (kCK0 sp gV (E σ) tk σ Q) := rfl
theorem m_kCK0 (sp : Sp) (gV : List V → List V → List V) (E : XK) (tk : TA) (σ : St) (Q : VK) (vs : List V) (H : Hp) : kCK0 sp gV E tk σ Q vs H = tk σ H (kCK1 sp gV E vs Q) := rfl
theorem m_kCK1 (sp : Sp) (gV : List V → List V → List V) (E : XK) (vs : List V) (Q : VK) (zs : List V) (H : Hp) : kCK1 sp gV E vs Q zs H = sp (gV vs zs) H Q E := rfl
def gK1 {α : Type} (f : α → α → List α) (us ws : List α) : List α := match us, ws with
  | [a], [b] => f a b
  | _, _ => []
def gK2 {α : Type} (f : α → α → α → List α) (us ws : List α) : List α := match us, ws with
  | [a], [b, c] => f a b c
  | _, _ => []
theorem m_gK1 {α : Type} (f : α → α → List α) (a b : α) : gK1 f [a] [b] = f a b := rfl
theorem m_gK2 {α : Type} (f : α → α → α → List α) (a b c : α) : gK2 f [a] [b, c] = f a b c := rfl
end
end L2

set_option Elab.async false
set_option linter.all false
set_option maxRecDepth 100000
set_option maxHeartbeats 4000000
namespace L2
open PySem PySem.Spec PyProof.Rows
/-! ### for x in reversed(list) -/
/-- the list at a, which has to stay xs, from its end -/
def Itv (K : PySem.W.Frag) (a : Addr) (xs : List V) : It :=
  ⟨fun i H => SqL K H a xs ∧ i < xs.length, fun i H x H' => H' = H ∧ xs[xs.length - 1 - i]? = some x, fun i _ => i = xs.length⟩
theorem turn_rev {P : Program} {w : World} {K : PySem.W.Frag} {tg : Expr} (a it : Addr) (xs : List V) : Turn P w K tg (Itv K a xs) [it] it (fun i h => i ≤ xs.length ∧ h.IsRevIter it a ((xs.length : Int) - 1 - (i : Int))) where
  mem := by simp
  obj := fun i h st b hb => by
    have e : b = it := by simpa using hb
    subst e
    obtain ⟨_, o, e, c, d⟩ := st
    exact ⟨o, e, fun v z => by rw [d] at z; cases z⟩
  keep := fun i h h' st k => ⟨st.1, st.2.at fun o e => k it (by simp) o e⟩
  item := by
    intro X hP hw hK hc i pins s σ H E I hf st hg
    subst hP hw hK
    obtain ⟨hq, hlt⟩ := hg
    obtain ⟨its, rv, p, hz⟩ := I.list hq
    have hx : xs[xs.length - 1 - i]? = some (xs[xs.length - 1 - i]'(by omega)) := List.getElem?_eq_getElem (by omega)
    obtain ⟨u, hu, ru⟩ := rv.get hx
    obtain ⟨f0, f1, f2, f3, f4, f5⟩ := hf it (by simp)
    have st1 := st.2
    rw [show ((xs.length : Int) - 1 - (i : Int)) = ((xs.length - 1 - i : Nat) : Int) by omega] at st1
    refine wpAny_pyNext_rev_item st1 p.isList (x := u) (by simpa using hu) fun h' st' sb => ?_
    have I1 : Inv X pins σ H { s with heap := h' } := I.turned (t' := s.toks) (fun b o hb e => (sb.2 b hb).trans e) f0 f1 f3 f4 f5
    obtain ⟨o, e, c, d⟩ := id st'
    rw [show (((xs.length - 1 - i : Nat) : Int) - 1) = (xs.length : Int) - 1 - ((i + 1 : Nat) : Int) by omega] at st'
    exact ⟨u, rfl, go_of (s := { s with heap := h' }) e c d (by decide) ⟨_, H, I1, ru, ⟨rfl, hx⟩, ⟨hlt, st'⟩, fun b hb => (hf b hb).1⟩⟩
  done := by
    intro X hP hw hK hc i pins s σ H E I hf st hg
    subst hP hw hK
    have e : i = xs.length := hg
    subst e
    obtain ⟨f0, f1, f2, f3, f4, f5⟩ := hf it (by simp)
    have st1 := st.2
    rw [show ((xs.length : Int) - 1 - (xs.length : Int)) = -1 by omega] at st1
    exact wpAny_pyNext_rev_end (I.ok.hd hc) st1 fun h' eb => ⟨rfl, I.turned (t' := s.toks) (fun b o hb e => eb b o hb e) f0 f1 f3 f4 f5⟩
  self := fun _ _ _ _ _ st h => wpAny_pyIter_revIter st.2 h
def kRvJ (K : PySem.W.Frag) (a : Addr) (H : Hp) (R : It → Hp → Prop) : List V → Prop := fun xs => R (Itv K a xs) H
theorem m_kRvJ (K : PySem.W.Frag) (a : Addr) (H : Hp) (R : It → Hp → Prop) (xs : List V) : kRvJ K a H R xs = R (Itv K a xs) H := rfl
def kRvI (K : PySem.W.Frag) (R : It → Hp → Prop) : List V → Hp → Prop := fun vs H => match vs with
  | [.ref a] => optK (lstAt H a) (kRvJ K a H R)
  | _ => False
theorem m_kRvI (K : PySem.W.Frag) (R : It → Hp → Prop) (a : Addr) (H : Hp) : kRvI K R [.ref a] H = optK (lstAt H a) (kRvJ K a H R) := rfl
def iRev (K : PySem.W.Frag) (ta : TA) : TI := fun σ H R => ta σ H (kRvI K R)
theorem m_iRev (K : PySem.W.Frag) (ta : TA) (σ : St) (H : Hp) (R : It → Hp → Prop) : iRev K ta σ H R = ta σ H (kRvI K R) := rfl
section
variable {X : Cx} {tg : Expr}
theorem pi_rev {a : Expr} {ta : TA} {p pos : Pos} (hg : Gl X "reversed") (hm : X.mg "reversed" = none) (ha : PA X [a] ta) (hs : starEach [a] X.env = [(false, eval a X.env)] := by rfl) : PI X tg (.Call (.Name "reversed" p) [a] [] pos) (iRev X.K ta) := by
  intro pins s σ H R I h
  refine Call_ (ld_blt I hg hm (show bootBuiltins "reversed" = some (.type "reversed") by decide +kernel) (PyProof.Rows.callWith_type1 (thn (ha pos pins s σ H _ I h) fun us s1 ⟨vs, H1, I1, r1, q1⟩ => ?_) hs rfl))
  unfold kRvI at q1
  split at q1
  · rename_i b
    obtain ⟨xs, e, q⟩ := optK_ex q1
    cases r1 with
    | cons r rr =>
      cases rr
      cases r
      obtain ⟨its, rv, pl, hz⟩ := I1.list (SqL.of (lst_of e))
      refine call_reversed_list pl.isList ?_
      have hsz : (its.toArray.size : Int) = (xs.length : Int) := by rw [← rv.length.symm]; simp
      have I2 : Inv X pins σ H1 { s1 with heap := s1.heap.push (revObj b ((its.toArray.size : Int) - 1)) } := I1.kept (t' := s1.toks) fun b o e => Heap.get?_push_of_some _ e
      have hit : (s1.heap.push (revObj b ((its.toArray.size : Int) - 1))).IsRevIter s1.heap.objs.size b ((xs.length : Int) - 1 - ((0 : Nat) : Int)) := ⟨_, Heap.get?_push_size _ rfl, rfl, by rw [hsz]; simp [revObj]⟩
      refine wpAny_pyIter_revIter hit ⟨s1.heap.objs.size, [s1.heap.objs.size], _, _, H1, rfl, I2, turn_rev b _ xs, ⟨Nat.zero_le _, hit⟩, fun c hb => ?_, q⟩
      have e : c = s1.heap.objs.size := by simpa using hb
      subst e
      exact I1.fpOk (Nat.le_refl _) (I1.hok.fresh (Nat.le_refl _))
  · exact q1.elim
end
theorem for_rev {K : PySem.W.Frag} {a : Addr} {xs : List V} {g : TG} {tb : TS} {nx : St → Hp → Prop} {rt : VK} {bk ct : St → Hp → Prop} {σ : St} {H : Hp} (Pv : Nat → St → Hp → Prop) (h0 : Pv 0 σ H) (hl : ∀ i σ H, i ≤ xs.length → Pv i σ H → SqL K H a xs)
    (hs : ∀ i x σ H, i < xs.length → xs[xs.length - 1 - i]? = some x → Pv i σ H → g x σ H (kBody tb ⟨Pv (i + 1), rt, nx, Pv (i + 1)⟩)) (hd : ∀ σ H, Pv xs.length σ H → nx σ H) : kFor g tb ⟨nx, rt, bk, ct⟩ σ (Itv K a xs) H := by
  refine ⟨fun i m σ H => m = xs.length - i ∧ i ≤ xs.length ∧ Pv i σ H, ⟨xs.length, by simp, Nat.zero_le _, h0⟩, ?_⟩
  rintro i m σ H ⟨rfl, hi, p⟩
  have q := hl i σ H hi p
  by_cases hlt : i < xs.length
  · refine .inr ⟨⟨q, hlt⟩, Pv (i + 1), fun σ' H' p' => ⟨xs.length - (i + 1), by omega, rfl, hlt, p'⟩, fun x H' y => ?_⟩
    obtain ⟨e, y⟩ := y
    subst e
    exact hs i x σ _ hlt y p
  · have e : i = xs.length := by omega
    subst e
    exact .inl ⟨rfl, hd σ H p⟩
end L2

set_option Elab.async false
set_option linter.all false
set_option maxRecDepth 100000
set_option maxHeartbeats 4000000
namespace L2
open PySem PySem.Spec PyProof.Rows
/-! ### sum and all of a list -/
def kSumI (H : Hp) (Q : VK) : List Int → Prop := fun ns => Q (.int ns.sum) H
theorem m_kSumI (H : Hp) (Q : VK) (ns : List Int) : kSumI H Q ns = Q (.int ns.sum) H := rfl
def qSum : List V → Hp → VK → Prop := fun vs H Q => match vs with
  | [.ref p] => optK (lstAt H p) (kInts (kSumI H Q))
  | _ => False
theorem m_qSum (p : Addr) (H : Hp) (Q : VK) : qSum [.ref p] H Q = optK (lstAt H p) (kInts (kSumI H Q)) := rfl
def kBls (F : List Bool → Prop) : List V → Prop := fun xs => ∃ bs, xs = bs.map V.bl ∧ F bs
theorem bls_inj : ∀ {ns ms : List Bool}, ns.map V.bl = ms.map V.bl → ns = ms
  | [], [], _ => rfl
  | [], _ :: _, h => by cases h
  | _ :: _, [], h => by cases h
  | i :: r, j :: t, h => by
    simp only [List.map_cons, List.cons.injEq, V.bl.injEq] at h
    rw [h.1, bls_inj h.2]
theorem m_kBls (F : List Bool → Prop) (bs : List Bool) : kBls F (bs.map V.bl) = F bs := propext ⟨fun ⟨ms, e, h⟩ => by rw [bls_inj e]; exact h, fun h => ⟨bs, rfl, h⟩⟩
def kAllB (H : Hp) (Q : VK) : List Bool → Prop := fun bs => Q (.bl (bs.all id)) H
theorem m_kAllB (H : Hp) (Q : VK) (bs : List Bool) : kAllB H Q bs = Q (.bl (bs.all id)) H := rfl
def qAll : List V → Hp → VK → Prop := fun vs H Q => match vs with
  | [.ref p] => optK (lstAt H p) (kBls (kAllB H Q))
  | _ => False
theorem m_qAll (p : Addr) (H : Hp) (Q : VK) : qAll [.ref p] H Q = optK (lstAt H p) (kBls (kAllB H Q)) := rfl
section
variable {X : Cx}
end
end L2

set_option Elab.async false
set_option linter.all false
set_option maxRecDepth 100000
set_option maxHeartbeats 4000000
namespace L2
open PySem PySem.Spec PyProof.Rows
/-! ### zip of two sequences, each a list or a tuple -/
/-- an iterator that zip may draw from: its own record at `it`, what it looks at at `fr` -/
structure Src (prog : Program) (w : World) (it : Addr) (fr : List Addr) (st : Nat → Heap → Prop) (val : Nat → Option Value) : Prop where
  mem : it ∈ fr
  there : ∀ k h, st k h → ∀ b ∈ fr, ∃ o, h.get? b = some o
  keep : ∀ k h h', st k h → (∀ b ∈ fr, ∀ o, h.get? b = some o → h'.get? b = some o) → st k h'
  item : ∀ (A : Around) k s v (Q : Value → Shared → Prop) (E : Value → Shared → Prop), st k s.heap → val k = some v → (∀ h', st (k + 1) h' → Heap.SameBut it s.heap h' → Q v { s with heap := h' }) → wpAny (model prog w) A (Builtin.SmallTypes.nextOf (.ref it)) Q E s
  fin : ∀ (A : Around) k s (Q : Value → Shared → Prop) (E : Value → Shared → Prop), A.handled = none → st k s.heap → val k = none → (∀ h' e, Heap.ExtBut it s.heap h' → (∃ o, h'.get? e = some o ∧ o.cls = .type "StopIteration") → E (.ref e) { s with heap := h' }) → wpAny (model prog w) A (Builtin.SmallTypes.nextOf (.ref it)) Q E s
section
variable {prog : Program} {w : World} {A : Around} {E : Value → Shared → Prop} {s : Shared}
structure Apart2 (z TI TO i j : Addr) (f g : List Addr) : Prop where
  ti : TI ≠ z ∧ TI ≠ TO ∧ TI ≠ i ∧ TI ≠ j
  zt : z ≠ TO
  zf : z ∉ f
  zg : z ∉ g
  tf : TO ∉ f
  tg : TO ∉ g
  ig : i ∉ g
  jf : j ∉ f
variable {z TI TO i j : Addr} {f g : List Addr} {ti tj : Nat → Heap → Prop} {vi vj : Nat → Option Value} {k m : Nat} {x y a b : Value}
theorem ne_mem {p q : Addr} {l : List Addr} (hp : p ∈ l) (hq : q ∉ l) : p ≠ q := fun e => hq (e ▸ hp)
theorem Src.but {prog : Program} {w : World} {it : Addr} {fr : List Addr} {st : Nat → Heap → Prop} {val : Nat → Option Value} (S : Src prog w it fr st val) {k : Nat} {c : Addr} {h h' : Heap} (q : st k h) (e : Heap.ExtBut c h h') (hc : c ∉ fr) : st k h' :=
  S.keep k h h' q fun b hb o ho => e b o (ne_mem hb hc) ho
end
end L2

set_option Elab.async false
set_option linter.all false
set_option maxRecDepth 100000
set_option maxHeartbeats 4000000
namespace L2
open PySem PySem.Spec PyProof.Rows
/-! ### a list (false) or a tuple (true) -/
def SeqAt (h : Heap) (k : Bool) (l : Addr) (xs : Array Value) : Prop := match k with
  | true => h.IsTuple l xs
  | false => h.IsList l xs
def IterAt (h : Heap) (k : Bool) (it l : Addr) (n : Nat) : Prop := match k with
  | true => h.IsTupleIter it l n
  | false => h.IsListIter it l n
theorem SeqAt.at {h h' : Heap} {k : Bool} {l : Addr} {xs : Array Value} (q : SeqAt h k l xs) (e : ∀ o, h.get? l = some o → h'.get? l = some o) : SeqAt h' k l xs := by
  cases k
  · exact Heap.IsList.at q e
  · exact Heap.IsTuple.at q e
theorem SeqAt.obj {h : Heap} {k : Bool} {l : Addr} {xs : Array Value} (q : SeqAt h k l xs) : ∃ o n, h.get? l = some o ∧ o.data = .seq xs n := by
  cases k
  · obtain ⟨o, e, _, n, d⟩ := (show h.IsList l xs from q); exact ⟨o, n, e, d⟩
  · obtain ⟨o, e, _, n, d⟩ := (show h.IsTuple l xs from q); exact ⟨o, n, e, d⟩
theorem IterAt.at {h h' : Heap} {k : Bool} {it l : Addr} {n : Nat} (q : IterAt h k it l n) (e : ∀ o, h.get? it = some o → h'.get? it = some o) : IterAt h' k it l n := by
  cases k
  · exact Heap.IsListIter.at q e
  · exact Heap.IsTupleIter.at q e
theorem IterAt.obj {h : Heap} {k : Bool} {it l : Addr} {n : Nat} (q : IterAt h k it l n) : ∃ o fs, h.get? it = some o ∧ o.data = .fields fs := by
  cases k
  · obtain ⟨o, e, _, d⟩ := (show h.IsListIter it l n from q); exact ⟨o, _, e, d⟩
  · obtain ⟨o, e, _, d⟩ := (show h.IsTupleIter it l n from q); exact ⟨o, _, e, d⟩
theorem IterAt.ne {h : Heap} {k k' : Bool} {it l a : Addr} {n : Nat} {xs : Array Value} (q : IterAt h k it l n) (r : SeqAt h k' a xs) : a ≠ it := fun e => by
  obtain ⟨o, fs, e1, d1⟩ := q.obj
  obtain ⟨o', n', e2, d2⟩ := r.obj
  rw [e, e1] at e2; cases e2
  rw [d1] at d2; cases d2
section
variable {prog : Program} {w : World} {A : Around} {E : Value → Shared → Prop} {s : Shared}
end
/-! ### records of ours have turned, and perhaps a new object stands there -/
section
variable {X : Cx} {pins : List (Addr × Obj)} {σ : List (Option V)} {H : Hp} {s : Shared} {h' : Heap}
end
/-! ### the walk of zip -/
def SqK (k : Bool) (H : Hp) (a : Addr) (xs : List V) : Prop := match k with
  | true => H a = some (.tup xs)
  | false => H a = some (.lst xs)
theorem SqK.ne {k : Bool} {H : Hp} {a b : Addr} {xs : List V} (h : SqK k H a xs) (e : H b = none) : a ≠ b := fun z => by
  subst z
  cases k
  · rw [show H a = some (.lst xs) from h] at e; cases e
  · rw [show H a = some (.tup xs) from h] at e; cases e
/-- a new pair each turn -/
def Itz (ka kb : Bool) (a b : Addr) (xs ys : List V) : It :=
  ⟨fun i H => SqK ka H a xs ∧ SqK kb H b ys ∧ i < xs.length ∧ i < ys.length, fun i H x H' => ∃ p u v, H p = none ∧ x = .ref p ∧ xs[i]? = some u ∧ ys[i]? = some v ∧ H' = upd H p (.tup [u, v]), fun i H => SqK ka H a xs ∧ SqK kb H b ys ∧ (xs.length ≤ i ∨ ys.length ≤ i)⟩
/-! the reading -/
def kZ2 (ka : Bool) (a b : Addr) (xs : List V) (H : Hp) (R : It → Hp → Prop) : HO → Prop := fun o => match o with
  | .lst ys => R (Itz ka false a b xs ys) H
  | .tup ys => R (Itz ka true a b xs ys) H
  | _ => False
theorem m_kZ2_l (ka : Bool) (a b : Addr) (xs ys : List V) (H : Hp) (R : It → Hp → Prop) : kZ2 ka a b xs H R (.lst ys) = R (Itz ka false a b xs ys) H := rfl
theorem m_kZ2_t (ka : Bool) (a b : Addr) (xs ys : List V) (H : Hp) (R : It → Hp → Prop) : kZ2 ka a b xs H R (.tup ys) = R (Itz ka true a b xs ys) H := rfl
def kZ1 (a b : Addr) (H : Hp) (R : It → Hp → Prop) : HO → Prop := fun o => match o with
  | .lst xs => optK (H b) (kZ2 false a b xs H R)
  | .tup xs => optK (H b) (kZ2 true a b xs H R)
  | _ => False
theorem m_kZ1_l (a b : Addr) (xs : List V) (H : Hp) (R : It → Hp → Prop) : kZ1 a b H R (.lst xs) = optK (H b) (kZ2 false a b xs H R) := rfl
theorem m_kZ1_t (a b : Addr) (xs : List V) (H : Hp) (R : It → Hp → Prop) : kZ1 a b H R (.tup xs) = optK (H b) (kZ2 true a b xs H R) := rfl
def kZ0 (R : It → Hp → Prop) : List V → Hp → Prop := fun vs H => match vs with
  | [.ref a, .ref b] => optK (H a) (kZ1 a b H R)
  | _ => False
theorem m_kZ0 (R : It → Hp → Prop) (a b : Addr) (H : Hp) : kZ0 R [.ref a, .ref b] H = optK (H a) (kZ1 a b H R) := rfl
def iZip (ta : TA) : TI := fun σ H R => ta σ H (kZ0 R)
theorem m_iZip (ta : TA) (σ : St) (H : Hp) (R : It → Hp → Prop) : iZip ta σ H R = ta σ H (kZ0 R) := rfl
section
variable {X : Cx}
end
end L2

set_option Elab.async false
set_option linter.all false
set_option maxRecDepth 100000
set_option maxHeartbeats 4000000
namespace L2
open PySem PySem.Spec PyProof.Rows
/-! ### comprehensions by what each element becomes -/
/-- behind the target: the test, then the element, whose wishes N1 (it is taken) and N0 (it isn't) are whatever they are -/
def kCm2 (te : TE) (σ2 : St) (N1 : VK) (N0 : Hp → Prop) : Bool → Hp → Prop := fun b H => if b = true then te σ2 H N1 else N0 H
theorem m_kCm2 (te : TE) (σ2 : St) (N1 : VK) (N0 : Hp → Prop) (b : Bool) (H : Hp) : kCm2 te σ2 N1 N0 b H = (if b = true then te σ2 H N1 else N0 H) := rfl
def kCm (k : Nat) (tt : TT) (te : TE) (σ : St) (N1 : VK) (N0 : Hp → Prop) : St → Hp → Prop := fun σ2 H => (∃ vs : St, vs.length = k ∧ σ2 = vs ++ σ) ∧ tt σ2 H (kCm2 te σ2 N1 N0)
theorem m_kCm_1 (tt : TT) (te : TE) (σ : St) (N1 : VK) (N0 : Hp → Prop) (a : Option V) (H : Hp) : kCm 1 tt te σ N1 N0 (a :: σ) H = tt (a :: σ) H (kCm2 te (a :: σ) N1 N0) := propext ⟨fun h => h.2, fun h => ⟨⟨[a], rfl, rfl⟩, h⟩⟩
theorem m_kCm_2 (tt : TT) (te : TE) (σ : St) (N1 : VK) (N0 : Hp → Prop) (a b : Option V) (H : Hp) : kCm 2 tt te σ N1 N0 (a :: b :: σ) H = tt (a :: b :: σ) H (kCm2 te (a :: b :: σ) N1 N0) := propext ⟨fun h => h.2, fun h => ⟨⟨[a, b], rfl, rfl⟩, h⟩⟩
theorem m_rep_1 (σ : St) : List.replicate 1 (none : Option V) ++ σ = none :: σ := rfl
theorem m_rep_2 (σ : St) : List.replicate 2 (none : Option V) ++ σ = none :: none :: σ := rfl
theorem m_rep_3 (σ : St) : List.replicate 3 (none : Option V) ++ σ = none :: none :: none :: σ := rfl
theorem m_kCm_3 (tt : TT) (te : TE) (σ : St) (N1 : VK) (N0 : Hp → Prop) (a b c : Option V) (H : Hp) : kCm 3 tt te σ N1 N0 (a :: b :: c :: σ) H = tt (a :: b :: c :: σ) H (kCm2 te (a :: b :: c :: σ) N1 N0) := propext ⟨fun h => h.2, fun h => ⟨⟨[a, b, c], rfl, rfl⟩, h⟩⟩
/-- ys stand for zs, one by one -/
def Al {α : Type} (R : α → V → Prop) (zs : List α) (ys : List V) : Prop := ys.length = zs.length ∧ ∀ (i : Nat) z y, zs[i]? = some z → ys[i]? = some y → R z y
theorem Al.nil {α : Type} {R : α → V → Prop} : Al R [] [] := ⟨rfl, fun i z y h => by simp at h⟩
theorem Al.snoc {α : Type} {R : α → V → Prop} {zs : List α} {ys : List V} {z : α} {y : V} (h : Al R zs ys) (r : R z y) : Al R (zs ++ [z]) (ys ++ [y]) := by
  refine ⟨by simp [h.1], fun i z' y' h1 h2 => ?_⟩
  by_cases hi : i < zs.length
  · rw [List.getElem?_append_left hi] at h1
    rw [List.getElem?_append_left (by rw [h.1]; exact hi)] at h2
    exact h.2 i z' y' h1 h2
  · rw [List.getElem?_append_right (by omega)] at h1
    rw [List.getElem?_append_right (by rw [h.1]; omega), h.1] at h2
    by_cases h0 : i - zs.length = 0
    · rw [h0] at h1 h2; simp at h1 h2; subst h1; subst h2; exact r
    · rw [List.getElem?_eq_none (by simp; omega)] at h1; cases h1
theorem Al.imp {α : Type} {R S : α → V → Prop} {zs : List α} {ys : List V} (h : Al R zs ys) (f : ∀ z y, R z y → S z y) : Al S zs ys := ⟨h.1, fun i z y a b => f z y (h.2 i z y a b)⟩
theorem Al.map {α : Type} {f : α → V} {zs : List α} {ys : List V} (h : Al (fun z y => y = f z) zs ys) : ys = zs.map f := by
  apply List.ext_getElem?
  intro i
  rw [List.getElem?_map]
  by_cases hi : i < zs.length
  · have e1 : zs[i]? = some zs[i] := List.getElem?_eq_getElem hi
    have e2 : ys[i]? = some (ys[i]'(by rw [h.1]; exact hi)) := List.getElem?_eq_getElem _
    rw [e1, e2, h.2 i _ _ e1 e2]; rfl
  · have := h.1; rw [List.getElem?_eq_none (show ys.length ≤ i by omega), List.getElem?_eq_none (show zs.length ≤ i by omega)]; rfl
section
variable {k : Nat} {g : TG} {tt : TT} {te : TE} {σ : St} {Q : VK} {H : Hp} {K : PySem.W.Frag}
/-- the walk of J over zs: at turn i it stands at zs[i], and x is what is told of it -/
theorem comp_rel {α : Type} {J : It} (zs : List α) (c : α → Bool) (P : α → V → Hp → Prop) (R : Addr → α → V → Hp → Prop)
    (hgo : ∀ i z H', zs[i]? = some z → Ext H H' → J.go i H' ∧ ∀ x H'', J.yld i H' x H'' → Ext H' H'' ∧ P z x H'')
    (hst : ∀ H', Ext H H' → J.stop zs.length H')
    (hR1 : ∀ D z y H1 H2, R D z y H1 → Ext H1 H2 → R D z y H2) (hR2 : ∀ D z y H1 o, R D z y H1 → R D z y (upd H1 D o))
    (hl : zs.length ≤ sizeLine)
    (hs : ∀ D z x H' N1 N0, z ∈ zs → H D = none → Ext H H' → (∃ ys, H' D = some (.lst ys)) → P z x H' → (c z = true → ∀ y H'', Ext H' H'' → R D z y H'' → N1 y H'') → (c z = false → ∀ H'', Ext H' H'' → N0 H'') → g x (List.replicate k none ++ σ) H' (kCm k tt te σ N1 N0))
    (hd : ∀ D ys H', H D = none → Ext H H' → H' D = some (.lst ys) → Al (fun z y => R D z y H') (zs.filter c) ys → Q (.ref D) H') : kComp k g tt te σ Q J H := by
  intro D hD
  refine ⟨fun i m ys H' => m = zs.length - i ∧ i ≤ zs.length ∧ Ext H H' ∧ H' D = some (.lst ys) ∧ Al (fun z y => R D z y H') ((zs.take i).filter c) ys, ⟨zs.length, by simp, Nat.zero_le _, Ext.new hD, upd_same, by simpa using Al.nil⟩, ?_⟩
  rintro i m ys H' ⟨rfl, hi, e, hD', al⟩
  by_cases hlt : i < zs.length
  · have hz : zs[i]? = some zs[i] := List.getElem?_eq_getElem hlt
    obtain ⟨go, y⟩ := hgo i zs[i] H' hz e
    have tk : zs.take (i + 1) = zs.take i ++ [zs[i]] := by rw [List.take_succ, hz]; rfl
    have ln : ys.length < sizeLine := by
      have h1 := al.1
      have h2 := List.length_filter_le c (zs.take i)
      simp only [List.length_take] at h2
      omega
    refine .inr ⟨go, fun ys' H2 => Ext H H2 ∧ H2 D = some (.lst ys') ∧ Al (fun z y => R D z y H2) ((zs.take (i + 1)).filter c) ys', fun ys' H2 p => ⟨zs.length - (i + 1), by omega, rfl, hlt, p⟩, fun x H2 z => ?_⟩
    obtain ⟨e2, p2⟩ := y x H2 z
    refine hs D zs[i] x H2 (kC3 D ys _) _ (List.getElem_mem hlt) hD (e.trans e2) ⟨ys, e2.at hD'⟩ p2 (fun hc y H3 e3 r3 => ?_) fun hc H3 e3 => ?_
    · refine ⟨e3.at (e2.at hD'), ln, (e.trans (e2.trans e3)).put hD, upd_same, ?_⟩
      rw [tk, List.filter_append, show [zs[i]].filter c = [zs[i]] by simp [hc]]
      exact Al.snoc (al.imp fun z y r => hR2 _ _ _ _ _ (hR1 _ _ _ _ _ r (e2.trans e3))) (hR2 _ _ _ _ _ r3)
    · refine ⟨e.trans (e2.trans e3), (e2.trans e3).at hD', ?_⟩
      rw [tk, List.filter_append, show [zs[i]].filter c = [] by simp [hc], List.append_nil]
      exact al.imp fun z y r => hR1 _ _ _ _ _ r (e2.trans e3)
  · have e' : i = zs.length := by omega
    subst e'
    rw [List.take_length] at al
    exact .inl ⟨hst H' e, hd D ys H' hD e hD' al⟩
/-! the walks -/
theorem wk_rng {lo : Int} {n : Nat} : (∀ i z H', (List.range n)[i]? = some z → Ext H H' → (Itr lo n).go i H' ∧ ∀ x H'', (Itr lo n).yld i H' x H'' → Ext H' H'' ∧ x = .int (lo + (z : Nat))) ∧ ∀ H', Ext H H' → (Itr lo n).stop (List.range n).length H' := by
  refine ⟨fun i z H' hz _ => ?_, fun H' _ => by simp [Itr]⟩
  obtain ⟨h1, h2⟩ := List.getElem?_eq_some_iff.mp hz
  have e : i = z := by simpa using h2
  subst e
  exact ⟨(show i < n by simpa using h1), fun x H'' y => ⟨by rw [y.1]; exact Ext.refl _, y.2⟩⟩
theorem SqK.ext {kk : Bool} {H H' : Hp} {a : Addr} {xs : List V} (h : SqK kk H a xs) (e : Ext H H') : SqK kk H' a xs := by
  cases kk
  · exact e.at (show H a = some (.lst xs) from h)
  · exact e.at (show H a = some (.tup xs) from h)
/-! for over zip -/
end
/-! ### what a comprehension's scope has to be, looked at at once -/
def compB (sc : Scope) (N : List Str) (scope : Scope) (N' : List Str) (k : Nat) : Bool :=
  scope.names.all (fun y => !(y.2 == .cell)) && (scope.kind == .function) && scope.names.all (fun y => !(y.2 == .local) || scope.names.lookup y.1 == some .local) && scope.names.all (fun y => !(y.2 == .free) || sc.names.lookup y.1 == some .cell) && decide (N'.length = k + N.length) &&
    ((N'.drop k).zip N).all (fun p => (!(scope.names.lookup p.1 == some .free) || decide (p.1 = p.2)) && !(scope.names.lookup p.1 == some .local))
theorem comp_ok {X : Cx} {scope : Scope} {N' : List Str} {k : Nat} (sc : Scope) (N : List Str) (h1 : X.env.scope = sc) (h2 : X.N = N) (h : compB sc N scope N' k = true) : CompOk X scope N' k := by
  unfold compB at h
  simp only [Bool.and_eq_true, decide_eq_true_eq] at h
  obtain ⟨⟨⟨⟨⟨a1, a2⟩, a3⟩, a4⟩, a5⟩, a6⟩ := h
  rw [List.all_eq_true] at a1 a3 a4 a6
  have pr : ∀ i x, N'[k + i]? = some x → ∃ y, N[i]? = some y ∧ (x, y) ∈ (N'.drop k).zip N := fun i x hx => by
    have h0 := (List.getElem?_eq_some_iff.mp hx).1
    have hi : i < N.length := by omega
    have e1 : (N'.drop k)[i]? = some x := by rw [List.getElem?_drop]; exact hx
    have e2 : N[i]? = some N[i] := List.getElem?_eq_getElem hi
    refine ⟨_, e2, List.mem_of_getElem? (i := i) ?_⟩
    rw [List.getElem?_zip_eq_some]
    exact ⟨e1, e2⟩
  refine ⟨fun y hy e => ?_, by simpa using a2, fun y hy e => ?_, fun y hy e => ?_, by rw [h2]; exact a5, fun i x hx hf => ?_, fun i x hx hf => ?_⟩
  · have := a1 y hy; rw [e] at this; simp at this
  · have := a3 y hy; rw [e] at this; simpa using this
  · have := a4 y hy; rw [e] at this; rw [h1]; simpa using this
  · obtain ⟨y, hy, hm⟩ := pr i x hx
    have := a6 _ hm
    simp only [hf] at this
    rw [h2, hy]
    simp at this
    rw [this]
  · obtain ⟨y, hy, hm⟩ := pr i x hx
    have := a6 _ hm
    simp [hf] at this
end L2

set_option Elab.async false
set_option linter.all false
set_option maxRecDepth 100000
set_option maxHeartbeats 4000000
namespace L2
open PySem PySem.Spec PyProof.Rows
/-! ### objects of own classes, for the machine -/
def kFldV (H : Hp) (Q : VK) : V → Prop := fun v => Q v H
theorem m_kFldV (H : Hp) (Q : VK) (v : V) : kFldV H Q v = Q v H := rfl
def kFldO (K : PySem.W.Frag) (f : Str) (H : Hp) (Q : VK) : HO → Prop := fun o => match o with
  | .ins C dx fs => Cls K C ∧ NoAttr K C f ∧ optK (fs.lookup f) (kFldV H Q)
  | _ => False
theorem m_kFldO (K : PySem.W.Frag) (f : Str) (H : Hp) (Q : VK) (C dx : Addr) (fs : List (Str × V)) : kFldO K f H Q (.ins C dx fs) = (Cls K C ∧ NoAttr K C f ∧ optK (fs.lookup f) (kFldV H Q)) := rfl
def kFld (K : PySem.W.Frag) (f : Str) (Q : VK) : VK := fun x H => match x with
  | .ref a => optK (H a) (kFldO K f H Q)
  | _ => False
theorem m_kFld (K : PySem.W.Frag) (f : Str) (Q : VK) (a : Addr) (H : Hp) : kFld K f Q (.ref a) H = optK (H a) (kFldO K f H Q) := rfl
def nFld (K : PySem.W.Frag) (ta : TE) (f : Str) : TE := fun σ H Q => ta σ H (kFld K f Q)
theorem m_nFld (K : PySem.W.Frag) (ta : TE) (f : Str) (σ : St) (H : Hp) (Q : VK) : nFld K ta f σ H Q = ta σ H (kFld K f Q) := rfl
section
variable {X : Cx} {e o value : Expr} {ta tv : TE} {f : Str} {pos pos' : Pos}
/-! o.f = value -/
def kSetO (K : PySem.W.Frag) (f : Str) (y : V) (a : Addr) (σ : St) (nx : St → Hp → Prop) (H : Hp) : HO → Prop := fun o => match o with
  | .ins C dx fs => Cls K C ∧ NoAttr K C f ∧ fs.length < 1000 ∧ nx σ (upd H a (.ins C dx (putF f y fs)))
  | _ => False
theorem m_kSetO (K : PySem.W.Frag) (f : Str) (y : V) (a : Addr) (σ : St) (nx : St → Hp → Prop) (H : Hp) (C dx : Addr) (fs : List (Str × V)) : kSetO K f y a σ nx H (.ins C dx fs) = (Cls K C ∧ NoAttr K C f ∧ fs.length < 1000 ∧ nx σ (upd H a (.ins C dx (putF f y fs)))) := rfl
def kSet1 (K : PySem.W.Frag) (f : Str) (y : V) (σ : St) (nx : St → Hp → Prop) : VK := fun x H => match x with
  | .ref a => optK (H a) (kSetO K f y a σ nx H)
  | _ => False
theorem m_kSet1 (K : PySem.W.Frag) (f : Str) (y : V) (σ : St) (nx : St → Hp → Prop) (a : Addr) (H : Hp) : kSet1 K f y σ nx (.ref a) H = optK (H a) (kSetO K f y a σ nx H) := rfl
def kSet0 (K : PySem.W.Frag) (f : Str) (ta : TE) (σ : St) (nx : St → Hp → Prop) : VK := fun y H => ta σ H (kSet1 K f y σ nx)
theorem m_kSet0 (K : PySem.W.Frag) (f : Str) (ta : TE) (σ : St) (nx : St → Hp → Prop) (y : V) (H : Hp) : kSet0 K f ta σ nx y H = ta σ H (kSet1 K f y σ nx) := rfl
def nSetF (K : PySem.W.Frag) (ta tv : TE) (f : Str) : TS := fun D σ H => tv σ H (kSet0 K f ta σ D.nx)
theorem m_nSetF (K : PySem.W.Frag) (ta tv : TE) (f : Str) (nx : St → Hp → Prop) (rt : VK) (bk ct : St → Hp → Prop) (σ : St) (H : Hp) : nSetF K ta tv f ⟨nx, rt, bk, ct⟩ σ H = tv σ H (kSet0 K f ta σ nx) := rfl
end
/-! o.m(..) -/
def kMethA (sp : Sp) (dvs : List V) (E : XK) (a : Addr) (Q : VK) : List V → Hp → Prop := fun vs H => sp (.ref a :: (vs ++ dvs)) H Q E
theorem m_kMethA_0 (sp : Sp) (dvs : List V) (E : XK) (a : Addr) (Q : VK) (H : Hp) : kMethA sp dvs E a Q [] H = sp (.ref a :: dvs) H Q E := rfl
theorem m_kMethA_1 (sp : Sp) (dvs : List V) (E : XK) (a : Addr) (Q : VK) (x : V) (H : Hp) : kMethA sp dvs E a Q [x] H = sp (.ref a :: x :: dvs) H Q E := rfl
theorem m_kMethA_2 (sp : Sp) (dvs : List V) (E : XK) (a : Addr) (Q : VK) (x y : V) (H : Hp) : kMethA sp dvs E a Q [x, y] H = sp (.ref a :: x :: y :: dvs) H Q E := rfl
theorem m_kMethA_3 (sp : Sp) (dvs : List V) (E : XK) (a : Addr) (Q : VK) (x y z : V) (H : Hp) : kMethA sp dvs E a Q [x, y, z] H = sp (.ref a :: x :: y :: z :: dvs) H Q E := rfl
def kMethO (C : Addr) (m : Str) (sp : Sp) (dvs : List V) (E : XK) (t : TA) (σ : St) (Q : VK) (a : Addr) (H : Hp) : HO → Prop := fun o => match o with
  | .ins C' dx fs => C' = C ∧ fs.lookup m = none ∧ t σ H (kMethA sp dvs E a Q)
  | _ => False
theorem m_kMethO (C : Addr) (m : Str) (sp : Sp) (dvs : List V) (E : XK) (t : TA) (σ : St) (Q : VK) (a : Addr) (H : Hp) (dx : Addr) (fs : List (Str × V)) : kMethO C m sp dvs E t σ Q a H (.ins C dx fs) = (fs.lookup m = none ∧ t σ H (kMethA sp dvs E a Q)) := propext ⟨fun h => h.2, fun h => ⟨rfl, h⟩⟩
def kMeth (C : Addr) (m : Str) (sp : Sp) (dvs : List V) (E : XK) (t : TA) (σ : St) (Q : VK) : VK := fun x H => match x with
  | .ref a => optK (H a) (kMethO C m sp dvs E t σ Q a H)
  | _ => False
theorem m_kMeth (C : Addr) (m : Str) (sp : Sp) (dvs : List V) (E : XK) (t : TA) (σ : St) (Q : VK) (a : Addr) (H : Hp) : kMeth C m sp dvs E t σ Q (.ref a) H = optK (H a) (kMethO C m sp dvs E t σ Q a H) := rfl
def nMeth (C : Addr) (m : Str) (sp : Sp) (dvs : List V) (E : XK) (ta : TE) (t : TA) : TE := fun σ H Q => ta σ H (kMeth C m sp dvs E t σ Q)
theorem m_nMeth (C : Addr) (m : Str) (sp : Sp) (dvs : List V) (E : XK) (ta : TE) (t : TA) (σ : St) (H : Hp) (Q : VK) : nMeth C m sp dvs E ta t σ H Q = ta σ H (kMeth C m sp dvs E t σ Q) := rfl
section
variable {X : Cx} {CX : CXT} {k : Nat} {f C : Addr} {fd : FuncData} {ps : List Str} {sp : Sp} {dvs : List V} {ds : List Value} {E : XK} {x m : Str} {p pos apos : Pos} {e o : Expr} {es : List Expr} {ta : TE} {t : TA}
end
/-! C(..) -/
def kMade (x : Addr) (Q : VK) : VK := fun v H => v = .non ∧ Q (.ref x) H
theorem m_kMade (x : Addr) (Q : VK) (H : Hp) : kMade x Q .non H = Q (.ref x) H := propext ⟨fun h => h.2, fun h => ⟨rfl, h⟩⟩
def kMake (C : Addr) (sp : Sp) (dvs : List V) (E : XK) (Q : VK) : List V → Hp → Prop := fun vs H => ∀ (x dx : Addr) (H' : Hp), H x = none → H dx = none → dx ≠ x → Ext H H' → H' x = some (.ins C dx []) → H' dx = some (.own x) → sp (.ref x :: (vs ++ dvs)) H' (kMade x Q) E
theorem m_kMake_0 (C : Addr) (sp : Sp) (dvs : List V) (E : XK) (Q : VK) (H : Hp) : kMake C sp dvs E Q [] H = ∀ (x dx : Addr) (H' : Hp), H x = none → H dx = none → dx ≠ x → Ext H H' → H' x = some (.ins C dx []) → H' dx = some (.own x) → sp (.ref x :: dvs) H' (kMade x Q) E := rfl
theorem m_kMake_1 (C : Addr) (sp : Sp) (dvs : List V) (E : XK) (Q : VK) (a : V) (H : Hp) : kMake C sp dvs E Q [a] H = ∀ (x dx : Addr) (H' : Hp), H x = none → H dx = none → dx ≠ x → Ext H H' → H' x = some (.ins C dx []) → H' dx = some (.own x) → sp (.ref x :: a :: dvs) H' (kMade x Q) E := rfl
theorem m_kMake_2 (C : Addr) (sp : Sp) (dvs : List V) (E : XK) (Q : VK) (a b : V) (H : Hp) : kMake C sp dvs E Q [a, b] H = ∀ (x dx : Addr) (H' : Hp), H x = none → H dx = none → dx ≠ x → Ext H H' → H' x = some (.ins C dx []) → H' dx = some (.own x) → sp (.ref x :: a :: b :: dvs) H' (kMade x Q) E := rfl
theorem m_kMake_3 (C : Addr) (sp : Sp) (dvs : List V) (E : XK) (Q : VK) (a b c : V) (H : Hp) : kMake C sp dvs E Q [a, b, c] H = ∀ (x dx : Addr) (H' : Hp), H x = none → H dx = none → dx ≠ x → Ext H H' → H' x = some (.ins C dx []) → H' dx = some (.own x) → sp (.ref x :: a :: b :: c :: dvs) H' (kMade x Q) E := rfl
def nMake (C : Addr) (sp : Sp) (dvs : List V) (E : XK) (t : TA) : TE := fun σ H Q => t σ H (kMake C sp dvs E Q)
theorem m_nMake (C : Addr) (sp : Sp) (dvs : List V) (E : XK) (t : TA) (σ : St) (H : Hp) (Q : VK) : nMake C sp dvs E t σ H Q = t σ H (kMake C sp dvs E Q) := rfl
section
variable {X : Cx} {CX : CXT} {k : Nat} {f C : Addr} {fd : FuncData} {ps : List Str} {sp : Sp} {dvs : List V} {ds : List Value} {E : XK} {x m : Str} {p pos apos : Pos} {e o : Expr} {es : List Expr} {ta : TE} {t : TA}
theorem kMake.to {Q : VK} {vs : List V} {H : Hp} (h : kMake C sp dvs E Q vs H) : ∀ x dx, H x = none → H dx = none → dx ≠ x → sp (.ref x :: (vs ++ dvs)) (upd (upd H dx (.own x)) x (.ins C dx [])) (fun v H2 => v = .non ∧ Q (.ref x) H2) E := fun x dx hx hd ne =>
  h x dx _ hx hd ne ((Ext.new hd).put hx) upd_same (by rw [upd_ne ne, upd_same])
end
end L2

set_option Elab.async false
set_option linter.all false
set_option maxRecDepth 100000
set_option maxHeartbeats 4000000
namespace L2
open PySem PySem.Spec PyProof.Rows
/-! ### arguments, one by one: what each is is looked at alone -/
def notStar : Expr → Bool
  | .Starred .. => false
  | _ => true
theorem star_ok {e : Expr} {es : List Expr} {env : Env} (h : notStar e = true) : starEach (e :: es) env = (false, eval e env) :: starEach es env := by
  cases e <;> first | rfl | cases h
theorem pa_c {X : Cx} {e : Expr} {es : List Expr} {te : TE} {t : TA} (ha : PE X e te) (hr : PA X es t) (hn : notStar e = true := by rfl) : PA X (e :: es) (tCons te t) := pa_cons ha hr (star_ok hn)
/-! ### exceptions with an __init__ of their own, for the machine -/
theorem m_tXI (K : PySem.W.Frag) (t : TA) (σ : St) (H : Hp) (Q : VK) : tXI K t σ H Q = t σ H (kXI K Q) := rfl
theorem m_xSetF (K : PySem.W.Frag) (ta tv : TE) (f : Str) (nx : St → Hp → Prop) (rt : VK) (bk ct : St → Hp → Prop) (σ : St) (H : Hp) : xSetF K ta tv f ⟨nx, rt, bk, ct⟩ σ H = tv σ H (kXS0 K f ta σ nx) := rfl
theorem m_kXS0 (K : PySem.W.Frag) (f : Str) (ta : TE) (σ : St) (nx : St → Hp → Prop) (y : V) (H : Hp) : kXS0 K f ta σ nx y H = ta σ H (kXS1 K f y σ nx) := rfl
theorem m_tRaiseI (C : Addr) (sp : Sp) (E : St → XK) (t : TA) (D : Ends) (σ : St) (H : Hp) : tRaiseI C sp E t D σ H = t σ H (kRI C sp (E σ)) := rfl
theorem m_tXF (K : PySem.W.Frag) (ta : TE) (f : Str) (σ : St) (H : Hp) (Q : VK) : tXF K ta f σ H Q = ta σ H (kXF K f Q) := rfl
/-- what an __init__ with one thing promises -/
def spX1 (C : Addr) (f : Str) : Sp := fun vs H Q E => ∃ e x, vs = [.ref e, x] ∧ H e = some (exH e C none) ∧ ∀ dx H', H dx = none → dx ≠ e → (∀ b o, b ≠ e → H b = some o → H' b = some o) → H' e = some (exH e C (some dx)) → H' dx = some (.xd [(f, x)]) → Q .non H'
theorem l_spX1 (C : Addr) (f : Str) {vs : List V} {H : Hp} {Q : VK} {E : XK} (h : spX1 C f vs H Q E) : vs.length = 2 := by
  obtain ⟨_, _, rfl, _⟩ := h
  rfl
/-- raised: the one thing stands in its dict -/
theorem kRI_x1 {C : Addr} {f : Str} {E : XK} {x : V} {H : Hp} (h : ∀ dx H', Ext H H' → H' dx = some (.xd [(f, x)]) → E (.ref C) (some dx) H') : kRI C (spX1 C f) E [x] H := by
  refine ⟨(show 1 ≤ sizeLine by decide), fun e he => ⟨e, x, rfl, upd_same, fun dx H' h1 h2 h3 h4 h5 => ⟨rfl, some dx, h4, fun _ z => by cases z; exact ⟨_, by rw [del_ne h2]; exact h5⟩, h dx _ (Same.ext fun b o q => ?_) (by rw [del_ne h2]; exact h5)⟩⟩⟩
  have hb : b ≠ e := ne_of_none q he
  rw [del_ne hb]
  exact h3 b o hb (by rw [upd_ne hb]; exact q)
end L2
namespace L2
open PySem PySem.Spec PyProof.Rows
/-! ### lists of tuples of ints -/
def TupV (H : Hp) (z : List Int) (y : V) : Prop := ∃ q, y = .ref q ∧ H q = some (.tup (z.map V.int))
theorem TupV.ext {H H' : Hp} {z : List Int} {y : V} (h : TupV H z y) (e : Ext H H') : TupV H' z y := by
  obtain ⟨q, rfl, hq⟩ := h
  exact ⟨q, rfl, e.at hq⟩
/-- .. and where a list is written -/
theorem TupV.upd {H : Hp} {z : List Int} {y : V} {p : Addr} {xs : List V} {o : HO} (h : TupV H z y) (hp : H p = some (.lst xs)) : TupV (upd H p o) z y := by
  obtain ⟨q, rfl, hq⟩ := h
  exact ⟨q, rfl, by rw [upd_ne (fun z => by rw [z, hp] at hq; cases hq)]; exact hq⟩
def TupsAt (H : Hp) (p : Addr) (zs : List (List Int)) : Prop := ∃ ys, H p = some (.lst ys) ∧ Al (TupV H) zs ys
theorem TupsAt.ext {H H' : Hp} {p : Addr} {zs : List (List Int)} (h : TupsAt H p zs) (e : Ext H H') : TupsAt H' p zs := by
  obtain ⟨ys, hp, al⟩ := h
  exact ⟨ys, e.at hp, al.imp fun _ _ r => r.ext e⟩
theorem tups_all {H : Hp} {f : V → Option PyData} : ∀ {zs : List (List Int)} {ys : List V}, Al (TupV H) zs ys → allSome (ys.map (datF H (datF H f))) = some (zs.map fun z => PyData.tuple (z.map PyData.int))
  | [], ys, h => by rw [List.eq_nil_of_length_eq_zero h.1]; rfl
  | z :: zs, [], h => by have := h.1; simp at this
  | z :: zs, y :: ys, h => by
    obtain ⟨q, rfl, hq⟩ := h.2 0 z y rfl rfl
    have ih := tups_all (H := H) (f := f) (zs := zs) (ys := ys) ⟨by have := h.1; simpa using this, fun i z y a b => h.2 (i + 1) z y (by simpa using a) (by simpa using b)⟩
    have e1 : datF H (datF H f) (.ref q) = some (.tuple (z.map PyData.int)) := by
      rw [m_datF_ref, hq]
      show datO (datF H f) (.tup (z.map V.int)) = _
      rw [m_datO_tup, allSome_ints]; rfl
    rw [List.map_cons, e1, m_allSome_cons, ih]; rfl
theorem tups_eqv : ∀ zs : List (List Int), PyData.eqvAll (zs.map fun z => PyData.tuple (z.map PyData.int)) (zs.map fun z => PyData.tuple (z.map PyData.int)) = true
  | [] => by rw [List.map_nil, eqvAll_nil]
  | z :: zs => by rw [List.map_cons, eqvAll_cons, eqv_tuple, eqvAll_ints, tups_eqv zs]; simp
theorem len5000 {n : Nat} (h : n ≤ 5000) : n ≤ sizeLine := Nat.le_trans h (by decide)
theorem lt5000 {n : Nat} (h : n < 5000) : n < sizeLine := Nat.lt_of_lt_of_le h (by decide)
/-! + of two tuples: whichever of them is empty -/
def kCT2 (xs : List V) (H : Hp) (Q : VK) : List V → Prop := fun ys => xs.length + ys.length ≤ sizeLine ∧ ∀ (p : Addr) (H' : Hp), Ext H H' → H' p = some (.tup (xs ++ ys)) → Q (.ref p) H'
theorem x_kCT2 (xs : List V) (H : Hp) (Q : VK) (ys : List V) : kCT2 xs H Q ys = (xs.length + ys.length ≤ sizeLine ∧ ∀ (p : Addr) (H' : Hp), Ext H H' → H' p = some (.tup (xs ++ ys)) → Q (.ref p) H') := rfl
def kCT1 (b : Addr) (H : Hp) (Q : VK) : List V → Prop := fun xs => optK (tupAt H b) (kCT2 xs H Q)
theorem m_kCT1 (b : Addr) (H : Hp) (Q : VK) (xs : List V) : kCT1 b H Q xs = optK (tupAt H b) (kCT2 xs H Q) := rfl
def nCatT : R2 := fun x y H Q => match x, y with
  | .ref l, .ref b => optK (tupAt H l) (kCT1 b H Q)
  | _, _ => False
theorem m_nCatT (l b : Addr) (H : Hp) (Q : VK) : nCatT (.ref l) (.ref b) H Q = optK (tupAt H l) (kCT1 b H Q) := rfl
theorem op_nCatT {X : Cx} : OpR X (binaryOp .Add) nCatT := by
  intro pins s σ H x y v u Q I rx ry h
  unfold nCatT at h
  split at h
  · rename_i l b
    obtain ⟨xs, e1, h⟩ := optK_ex h
    obtain ⟨ys, e2, hz, k⟩ := optK_ex h
    have g1 := tup_of e1
    have g2 := tup_of e2
    by_cases hx : xs = []
    · subst hx
      cases rx
      cases ry
      obtain ⟨its, r1, p1, _⟩ := I.tuple (SqT.of g1)
      obtain ⟨its2, r2, p2, _⟩ := I.tuple (SqT.of g2)
      obtain ⟨⟨cls, dd, data, sl⟩, ho, hc, n, hd⟩ := id p1
      obtain ⟨⟨cls2, dd2, data2, sl2⟩, ho2, hc2, n2, hd2⟩ := id p2
      simp only at hc hd hc2 hd2
      subst hc hd hc2 hd2
      cases r1
      exact concat_meets ⟨_, ho, rfl⟩ ⟨_, ho2, rfl⟩ noFill_tuple_add seq_tuple_add PySem.F.slot_tuple_add PySem.F.entry_tuple_add (PySem.F.args_tuple_add_2 _ _)
        (tuple_addW0 l b #[] its2.toArray n n2 dd dd2 sl sl2 (by simp)) ⟨ho, ho2, show EP X pins σ Q (.ref b) s from ⟨.ref b, H, I, rfl, k b H (Ext.refl _) (by rw [List.nil_append]; exact g2)⟩⟩
    · refine op_catT pins s σ H (.ref l) (.ref b) v u Q I rx ry ⟨l, b, xs, ys, rfl, rfl, SqT.of g1, SqT.of g2, hx, hz, fun hy => ?_, fun hy p hp => k p _ (Ext.new hp) upd_same⟩
      subst hy
      exact k l H (Ext.refl _) (by rw [List.append_nil]; exact g1)
  · exact h.elim
theorem TupsAt.upd {H : Hp} {r p : Addr} {zs : List (List Int)} {xs : List V} {o : HO} (h : TupsAt H r zs) (hp : H p = some (.lst xs)) (ne : r ≠ p) : TupsAt (upd H p o) r zs := by
  obtain ⟨ys, hr, al⟩ := h
  exact ⟨ys, by rw [upd_ne ne]; exact hr, al.imp fun _ _ t => t.upd hp⟩
theorem TupsAt.ne {H : Hp} {r p : Addr} {zs : List (List Int)} {ms : List Int} (h : TupsAt H r zs) (hz : 0 < zs.length) (hp : H p = some (.lst (ms.map V.int))) : r ≠ p := fun e => by
  subst e
  obtain ⟨ys, hr, al⟩ := h
  rw [hr] at hp
  have e1 : ys = ms.map V.int := by injection hp with h1; injection h1
  have e2 : ys[0]? = some (ys[0]'(by rw [al.1]; exact hz)) := List.getElem?_eq_getElem _
  obtain ⟨q, hq, _⟩ := al.2 0 _ _ (List.getElem?_eq_getElem hz) e2
  rw [hq, e1, List.getElem?_map] at e2
  obtain ⟨m, _, h3⟩ := Option.map_eq_some_iff.mp e2
  cases h3
end L2

set_option Elab.async false
set_option linter.all false
set_option maxRecDepth 100000
set_option maxHeartbeats 4000000
namespace L2
open PySem PySem.Spec PyProof.Rows
/-! ### a list that stands for zs, walked as zs -/
def axP (a : Int × Int) (x : V) (H : Hp) : Prop := ∃ q, x = .ref q ∧ H q = some (.tup [.int a.1, .int a.2])
theorem axP.ext {a : Int × Int} {x : V} {H H' : Hp} (h : axP a x H) (e : Ext H H') : axP a x H' := by
  obtain ⟨q, rfl, hq⟩ := h
  exact ⟨q, rfl, e.at hq⟩
end L2

namespace PH
/-- the sizes of a view: at most eight, each from 1 to 10 ** 9 -/
def Sizes (ns : List Int) : Prop := ns.length ≤ 8 ∧ ∀ n ∈ ns, 1 ≤ n ∧ n ≤ 1000000000
def prodL : List Int → Int
  | [] => 1
  | n :: r => n * prodL r
def splitL : List Int → Int → List Int
  | [], _ => []
  | n :: r, x => x / prodL r % n :: splitL r x
theorem prodL_append : ∀ ns ms : List Int, prodL (ns ++ ms) = prodL ns * prodL ms
  | [], ms => by simp [prodL]
  | n :: r, ms => by simp only [List.cons_append, prodL, prodL_append r ms, Int.mul_assoc]
theorem prodL_take (ns : List Int) (i : Nat) (z : Int) (h : ns[i]? = some z) : prodL (ns.take (i + 1)) = prodL (ns.take i) * z := by
  rw [List.take_add_one, h, prodL_append]
  simp [prodL]
theorem prodL_pos : ∀ ns : List Int, (∀ n ∈ ns, 1 ≤ n ∧ n ≤ 1000000000) → 1 ≤ prodL ns ∧ prodL ns ≤ 1000000000 ^ ns.length
  | [], _ => by simp [prodL]
  | n :: r, h => by
    obtain ⟨h1, h2⟩ := prodL_pos r fun m hm => h m (List.mem_cons_of_mem _ hm)
    obtain ⟨g1, g2⟩ := h n List.mem_cons_self
    refine ⟨?_, ?_⟩
    · show 1 ≤ n * prodL r
      exact Int.le_trans (by omega) (Int.mul_le_mul g1 h1 (by decide) (by omega) : 1 * 1 ≤ n * prodL r)
    · show n * prodL r ≤ 1000000000 ^ (r.length + 1)
      rw [Int.pow_succ, Int.mul_comm]
      exact Int.mul_le_mul h2 g2 (by omega) (Int.le_trans (by omega) h2)
theorem pow9_le : ∀ {k : Nat}, k ≤ 8 → (1000000000 : Int) ^ k ≤ 1000000000 ^ 8
  | 0, _ => by decide
  | 1, _ => by decide
  | 2, _ => by decide
  | 3, _ => by decide
  | 4, _ => by decide
  | 5, _ => by decide
  | 6, _ => by decide
  | 7, _ => by decide
  | 8, _ => by decide
  | k + 9, h => by omega
theorem Sizes.prod {ns : List Int} (h : Sizes ns) : 1 ≤ prodL ns ∧ prodL ns ≤ 1000000000 ^ 8 := by
  obtain ⟨a, b⟩ := prodL_pos ns h.2
  exact ⟨a, Int.le_trans b (pow9_le h.1)⟩
theorem Sizes.take {ns : List Int} (h : Sizes ns) (i : Nat) : Sizes (ns.take i) := ⟨by have := h.1; simp; omega, fun n hn => h.2 n (List.mem_of_mem_take hn)⟩
theorem Sizes.drop {ns : List Int} (h : Sizes ns) (i : Nat) : Sizes (ns.drop i) := ⟨by have := h.1; simp; omega, fun n hn => h.2 n (List.mem_of_mem_drop hn)⟩
/-- one turn from the end -/
theorem drop_step (ns : List Int) (i : Nat) (z : Int) (hi : i < ns.length) (h : ns[ns.length - 1 - i]? = some z) : ns.drop (ns.length - (i + 1)) = z :: ns.drop (ns.length - i) := by
  have e : ns.length - (i + 1) = ns.length - 1 - i := by omega
  have e2 : ns.length - i = ns.length - 1 - i + 1 := by omega
  rw [e, e2]
  obtain ⟨hl, hz⟩ := List.getElem?_eq_some_iff.mp h
  rw [← hz]
  exact List.drop_eq_getElem_cons hl
theorem prodL_step (ns : List Int) (i : Nat) (z : Int) (hi : i < ns.length) (h : ns[ns.length - 1 - i]? = some z) : prodL (ns.drop (ns.length - (i + 1))) = prodL (ns.drop (ns.length - i)) * z := by
  rw [drop_step ns i z hi h]; exact Int.mul_comm _ _
theorem splitL_step (ns : List Int) (x : Int) (i : Nat) (z : Int) (hi : i < ns.length) (h : ns[ns.length - 1 - i]? = some z) : (splitL (ns.drop (ns.length - (i + 1))) x).reverse = (splitL (ns.drop (ns.length - i)) x).reverse ++ [x / prodL (ns.drop (ns.length - i)) % z] := by
  rw [drop_step ns i z hi h]; simp [splitL]
theorem left_step (ns : List Int) (x : Int) (i : Nat) (z : Int) (hi : i < ns.length) (h : ns[ns.length - 1 - i]? = some z) (hz : 0 ≤ prodL (ns.drop (ns.length - i))) : x / prodL (ns.drop (ns.length - (i + 1))) = x / prodL (ns.drop (ns.length - i)) / z := by
  rw [prodL_step ns i z hi h]
  exact (Int.ediv_ediv_of_nonneg hz).symm
theorem splitL_len : ∀ (ns : List Int) (x : Int), (splitL ns x).length = ns.length
  | [], _ => rfl
  | _ :: r, x => by simp [splitL, splitL_len r x]
/-- a place of the sizes, and its number -/
def InR : List Int → List Int → Prop
  | [], [] => True
  | n :: r, x :: xs => (0 ≤ x ∧ x < n) ∧ InR r xs
  | _, _ => False
theorem InR.len : ∀ {ns xs : List Int}, InR ns xs → xs.length = ns.length
  | [], [], _ => rfl
  | [], _ :: _, h => h.elim
  | _ :: _, [], h => h.elim
  | _ :: r, _ :: xs, ⟨_, h⟩ => by simp [InR.len h]
theorem InR.split : ∀ (ns : List Int) (x : Int), (∀ n ∈ ns, 1 ≤ n ∧ n ≤ 1000000000) → InR ns (splitL ns x)
  | [], _, _ => trivial
  | n :: r, x, hs => ⟨⟨Int.emod_nonneg _ (by have := hs n List.mem_cons_self; omega), Int.emod_lt_of_pos _ (by have := hs n List.mem_cons_self; omega)⟩, InR.split r x fun m hm => hs m (List.mem_cons_of_mem _ hm)⟩
theorem InR.zeros : ∀ r : List Int, (∀ n ∈ r, 1 ≤ n ∧ n ≤ 1000000000) → InR r (r.map fun _ => 0)
  | [], _ => trivial
  | n :: r, h => ⟨⟨Int.le_refl 0, (by have := h n List.mem_cons_self; show (0 : Int) < n; omega)⟩, InR.zeros r fun m hm => h m (List.mem_cons_of_mem _ hm)⟩
theorem InR.up : ∀ {as ahead : List Int} {n x : Int} {r ys : List Int}, ahead.length = as.length → InR (as ++ n :: r) (ahead ++ x :: ys) → x + 1 < n → (∀ n ∈ r, 1 ≤ n ∧ n ≤ 1000000000) → InR (as ++ n :: r) (ahead ++ (x + 1) :: r.map fun _ => 0)
  | [], [], _, _, _, _, _, h, hx, hs => ⟨⟨by have := h.1; omega, hx⟩, InR.zeros _ hs⟩
  | [], _ :: _, _, _, _, _, h, _, _, _ => by cases h
  | _ :: _, [], _, _, _, _, h, _, _, _ => by cases h
  | _ :: as, _ :: ahead, _, _, _, _, h, k, hx, hs => ⟨k.1, InR.up (as := as) (ahead := ahead) (by simpa using h) k.2 hx hs⟩
end PH

namespace PH
open PySem L2
def vi : V → Int
  | .int i => i
  | _ => 0
/-- what may be asked whether it is a place -/
def thingOk (H : Hp) (x : V) : Prop := (isW H x).isSome = true ∧ ∀ q xs, x = .ref q → H q = some (.tup xs) → ∀ y ∈ xs, (isW H y).isSome = true
theorem isW_ext {H H' : Hp} (e : Ext H H') {x : V} {b : Bool} (h : isW H x = some b) : isW H' x = some b := by
  cases x with
  | ref p =>
    obtain ⟨_, o, ho, _⟩ := isW_obj h
    rw [isW_ref', ho] at h
    rw [isW_ref', e.at ho]; exact h
  | _ => exact h
theorem thingOk.ext {H H' : Hp} {x : V} (h : thingOk H x) (e : Ext H H') : thingOk H' x := by
  obtain ⟨b, hb⟩ := Option.isSome_iff_exists.mp h.1
  refine ⟨by rw [isW_ext e hb]; rfl, fun q xs hx hq y hy => ?_⟩
  subst hx
  obtain ⟨_, o, ho, _⟩ := isW_obj hb
  have e2 := e.at ho
  rw [hq] at e2; cases e2
  obtain ⟨c, hc⟩ := Option.isSome_iff_exists.mp (h.2 q xs rfl ho y hy)
  rw [isW_ext e hc]; rfl
end PH
namespace PH
theorem InR.small : ∀ {ns ys : List Int}, Sizes ns → InR ns ys → ∀ a ∈ ys, a.natAbs < 2 ^ 256 := fun {ns ys} hs hy => by
  have : ∀ {ns ys : List Int}, (∀ n ∈ ns, 1 ≤ n ∧ n ≤ 1000000000) → InR ns ys → ∀ a ∈ ys, a.natAbs < 2 ^ 256 := by
    intro ns
    induction ns with
    | nil => intro ys _ h a ha; cases ys with
      | nil => cases ha
      | cons _ _ => exact h.elim
    | cons n r ih => intro ys hs h a ha; cases ys with
      | nil => exact h.elim
      | cons y ys =>
        rcases List.mem_cons.mp ha with rfl | ha
        · have := h.1; have := hs n List.mem_cons_self; omega
        · exact ih (fun m hm => hs m (List.mem_cons_of_mem _ hm)) h.2 a ha
  exact this hs.2 hy
end PH
namespace PH
open PySem L2
theorem filt {α : Type} (l : List α) : (l.filter fun _ => true) = l := List.filter_eq_self.mpr fun _ _ => rfl
end PH

namespace PH
open PySem L2
/-- the places of the sizes by rising numbers -/
def rowsL (ns : List Int) : List (List Int) := (List.range (prodL ns).toNat).map fun i => splitL ns ((i : Nat) : Int)
theorem splitL_snoc : ∀ (p : List Int) (n x : Int), 0 < n → splitL (p ++ [n]) x = splitL p (x / n) ++ [x % n]
  | [], n, x, hn => by simp [splitL, prodL]
  | m :: p, n, x, hn => by
    have ih := splitL_snoc p n x hn
    show x / prodL (p ++ [n]) % m :: splitL (p ++ [n]) x = x / n / prodL p % m :: (splitL p (x / n) ++ [x % n])
    rw [ih, prodL_append, show prodL [n] = n by simp [prodL], Int.mul_comm, Int.ediv_ediv_of_nonneg (by omega)]
theorem range_mul (b : Nat) : ∀ a : Nat, List.range (a * b) = (List.range a).flatMap fun j => (List.range b).map fun k => j * b + k
  | 0 => by simp
  | a + 1 => by
    rw [Nat.succ_mul, List.range_add, range_mul b a, List.range_succ, List.flatMap_append]
    simp
theorem rowsL_snoc (p : List Int) (n : Int) (hp : 0 ≤ prodL p) (hn : 0 < n) : rowsL (p ++ [n]) = (rowsL p).flatMap fun row => (List.range n.toNat).map fun k => row ++ [((k : Nat) : Int)] := by
  unfold rowsL
  have e : (prodL (p ++ [n])).toNat = (prodL p).toNat * n.toNat := by
    rw [prodL_append, show prodL [n] = n by simp [prodL]]
    obtain ⟨a, ha⟩ := Int.eq_ofNat_of_zero_le hp
    obtain ⟨b, hb⟩ := Int.eq_ofNat_of_zero_le (show 0 ≤ n by omega)
    rw [ha, hb]
    rfl
  rw [e, range_mul, List.map_flatMap, List.flatMap_map]
  congr 1
  funext j
  rw [List.map_map]
  apply List.map_congr_left
  intro k hk
  have hk' : k < n.toNat := by simpa using hk
  show splitL (p ++ [n]) ((j * n.toNat + k : Nat) : Int) = splitL p (j : Nat) ++ [((k : Nat) : Int)]
  rw [splitL_snoc p n _ hn]
  have c : ((j * n.toNat + k : Nat) : Int) = (k : Int) + (j : Int) * n := by
    push_cast
    rw [show ((n.toNat : Nat) : Int) = n by omega]; omega
  rw [c, Int.add_mul_ediv_right _ _ (by omega), Int.ediv_eq_zero_of_lt (by omega) (by omega), Int.zero_add, Int.add_mul_emod_self_right, Int.emod_eq_of_lt (by omega) (by omega)]
theorem rowsL_len (ns : List Int) : (rowsL ns).length = (prodL ns).toNat := by simp [rowsL]
theorem prodL_take_le (ns : List Int) (h : ∀ n ∈ ns, 1 ≤ n ∧ n ≤ 1000000000) (i : Nat) : prodL (ns.take i) ≤ prodL ns := by
  have e : prodL ns = prodL (ns.take i) * prodL (ns.drop i) := by rw [← prodL_append, List.take_append_drop]
  have a := (prodL_pos (ns.take i) fun n hn => h n (List.mem_of_mem_take hn)).1
  have b := (prodL_pos (ns.drop i) fun n hn => h n (List.mem_of_mem_drop hn)).1
  rw [e]
  have := Int.mul_le_mul_of_nonneg_left b (show 0 ≤ prodL (ns.take i) by omega)
  omega
end PH

set_option Elab.async false
set_option linter.all false
set_option maxRecDepth 100000
set_option maxHeartbeats 4000000
namespace PH
open PySem L2

def top (i : Nat) : Stmt := PySem.Challenge.pw_pacehall_k13_all_places.main.body.getD i (.Pass ⟨0, 0, 0, 0⟩)
abbrev s_TooMany___init__ : Stmt := inClass (top 4) 0
theorem c_TooMany___init__ : FnScope ["self", "number"] ["self", "number"] (defScope s_TooMany___init__) := ⟨rfl, rfl, rfl, by decide +kernel, rfl, by decide +kernel, by decide +kernel⟩
abbrev s_count_of : Stmt := top 7
theorem c_count_of : FnScope ["sizes", "count", "size"] ["sizes"] (defScope s_count_of) := ⟨rfl, rfl, rfl, by decide +kernel, rfl, by decide +kernel, by decide +kernel⟩
abbrev s_split_number : Stmt := top 8
theorem c_split_number : FnScope ["sizes", "number", "place", "left", "size"] ["sizes", "number"] (defScope s_split_number) := ⟨rfl, rfl, rfl, by decide +kernel, rfl, by decide +kernel, by decide +kernel⟩
abbrev s_refuse_long : Stmt := top 9
theorem c_refuse_long : FnScope ["count"] ["count"] (defScope s_refuse_long) := ⟨rfl, rfl, rfl, by decide +kernel, rfl, by decide +kernel, by decide +kernel⟩
abbrev s_places : Stmt := top 10
theorem c_places : FnScope ["sizes", "count"] ["sizes"] (defScope s_places) := ⟨rfl, rfl, rfl, by decide +kernel, rfl, by decide +kernel, by decide +kernel⟩
abbrev s__law_draw : Stmt := top 12
theorem c__law_draw : FnScope ["_law_script", "_law_k", "_law_many", "_law_number"] ["_law_script", "_law_k", "_law_many"] (defScope s__law_draw) := ⟨rfl, rfl, rfl, by decide +kernel, rfl, by decide +kernel, by decide +kernel⟩
abbrev s__law_whole : Stmt := top 13
theorem c__law_whole : FnScope ["_law_found"] ["_law_found"] (defScope s__law_whole) := ⟨rfl, rfl, rfl, by decide +kernel, rfl, by decide +kernel, by decide +kernel⟩
abbrev s__law_great : Stmt := top 14
theorem c__law_great : FnScope ["_law_script", "_law_way", "_law_cell", "_law_some"] ["_law_script", "_law_way"] (defScope s__law_great) := ⟨rfl, rfl, rfl, by decide +kernel, rfl, by decide +kernel, by decide +kernel⟩
abbrev s__law_sizes : Stmt := top 15
theorem c__law_sizes : FnScope ["_law_script", "_law_way", "_law_sizes_here", "_law_count_here", "_law_k", "_law_size"] ["_law_script"] (defScope s__law_sizes) := ⟨rfl, rfl, rfl, by decide +kernel, rfl, by decide +kernel, by decide +kernel⟩
abbrev s__law_count : Stmt := top 16
theorem c__law_count : FnScope ["_law_sizes_here", "_law_count_here", "_law_size"] ["_law_sizes_here"] (defScope s__law_count) := ⟨rfl, rfl, rfl, by decide +kernel, rfl, by decide +kernel, by decide +kernel⟩
abbrev s__law_all : Stmt := top 17
theorem c__law_all : FnScope ["_law_sizes_here", "_law_rows", "_law_size", "_law_longer", "_law_row", "_law_number"] ["_law_sizes_here"] (defScope s__law_all) := ⟨rfl, rfl, rfl, by decide +kernel, rfl, by decide +kernel, by decide +kernel⟩
abbrev s__law_right : Stmt := top 18
theorem c__law_right : FnScope ["_law_found", "_law_due", "_law_place", "_law_number"] ["_law_found", "_law_due"] (defScope s__law_right) := ⟨rfl, rfl, rfl, by decide +kernel, rfl, by decide +kernel, by decide +kernel⟩
abbrev s__law_refused : Stmt := top 19
theorem c__law_refused : FnScope ["_law_sizes_here", "_law_count_here", "_law_kind", "_law_number", "e"] ["_law_sizes_here", "_law_count_here"] (defScope s__law_refused) := ⟨rfl, rfl, rfl, by decide +kernel, rfl, by decide +kernel, by decide +kernel⟩
abbrev s_law : Stmt := top 20
theorem c_law : FnScope ["_law_script", "_law_sizes_here", "_law_handed", "_law_count_here", "_law_due", "_law_found"] ["_law_script"] (defScope s_law) := ⟨rfl, rfl, rfl, by decide +kernel, rfl, by decide +kernel, by decide +kernel⟩
structure Adr where
  a_PaceError : Addr
  a_NoPlace : Addr
  a_NoCells : Addr
  a_TooMany : Addr
  a_TooMany___init__ : Addr
  d_TooMany___init__ : FuncData
  a_count_of : Addr
  d_count_of : FuncData
  a_split_number : Addr
  d_split_number : FuncData
  a_refuse_long : Addr
  d_refuse_long : FuncData
  a_places : Addr
  d_places : FuncData
  a__law_draw : Addr
  d__law_draw : FuncData
  a__law_whole : Addr
  d__law_whole : FuncData
  a__law_great : Addr
  d__law_great : FuncData
  a__law_sizes : Addr
  d__law_sizes : FuncData
  a__law_count : Addr
  d__law_count : FuncData
  a__law_all : Addr
  d__law_all : FuncData
  a__law_right : Addr
  d__law_right : FuncData
  a__law_refused : Addr
  d__law_refused : FuncData
  a_law : Addr
  d_law : FuncData
structure Tx (K : PySem.W.Frag) (mg : Str → Option Value) (t : Adr) : Prop where
  m_PaceError : mg "PaceError" = some (.ref t.a_PaceError)
  m_NoPlace : mg "NoPlace" = some (.ref t.a_NoPlace)
  m_NoCells : mg "NoCells" = some (.ref t.a_NoCells)
  m_TooMany : mg "TooMany" = some (.ref t.a_TooMany)
  x_TooMany_TooMany : PySem.W.exmOne K (.ref t.a_TooMany) (.ref t.a_TooMany) = some true
  x_TooMany_PaceError : PySem.W.exmOne K (.ref t.a_TooMany) (.ref t.a_PaceError) = some true
  ocs : PySem.W.specialIn K (.builtin "object.__class__") "__get__" = some (some (.builtin "getset_descriptor.__get__"))
  oct : PySem.W.takesIn K (.builtin "object.__class__") = some true
  ga_TooMany : PySem.W.findIn K (.ref t.a_TooMany) "__getattribute__" = some (some (.builtin "BaseException.__getattribute__"))
  gn_TooMany : PySem.W.findIn K (.ref t.a_TooMany) "__getattr__" = some none
  mb_TooMany : PySem.W.mroIn K t.a_TooMany (.type "BaseException") = some true
  mo_TooMany : PySem.W.mroIn K t.a_TooMany (.type "object") = some true
  fc_TooMany : PySem.W.findIn K (.ref t.a_TooMany) "__class__" = some (some (.builtin "object.__class__"))
  hd_TooMany : PySem.W.hasDictIn K t.a_TooMany = true
  kc_TooMany_NoPlace : PySem.W.hasDictIn K t.a_NoPlace = true
  kt_TooMany_NoPlace : PySem.W.typeIn K (.ref t.a_NoPlace) = some (.type "type")
  ks_TooMany_NoPlace : PySem.W.subIn K (.ref t.a_TooMany) (.ref t.a_NoPlace) = some false
  kn_TooMany_NoPlace : (t.a_TooMany == t.a_NoPlace) = false
  kc_TooMany_NoCells : PySem.W.hasDictIn K t.a_NoCells = true
  kt_TooMany_NoCells : PySem.W.typeIn K (.ref t.a_NoCells) = some (.type "type")
  ks_TooMany_NoCells : PySem.W.subIn K (.ref t.a_TooMany) (.ref t.a_NoCells) = some false
  kn_TooMany_NoCells : (t.a_TooMany == t.a_NoCells) = false
  ks_TooMany_ValueError : PySem.W.subIn K (.ref t.a_TooMany) (.type "ValueError") = some true
  m_MOST_TOLD : ∃ tk, mg "MOST_TOLD" = some (.int 4096 tk)
  oi_TooMany : OwnI K t.a_TooMany t.a_TooMany___init__
  tk_TooMany_number : PySem.W.takerIn K t.a_TooMany "number" = some none
  na_TooMany_number : NoAttr K t.a_TooMany "number"
  bi_PaceError : BaseI K t.a_PaceError
  F_TooMany___init__ : Fun K "__init__" "TooMany.__init__" s_TooMany___init__ t.a_TooMany___init__ t.d_TooMany___init__
  b_TooMany___init__ : Binds K t.d_TooMany___init__ ["self", "number"] []
  F_count_of : Fun K "count_of" "count_of" s_count_of t.a_count_of t.d_count_of
  m_count_of : mg "count_of" = some (.ref t.a_count_of)
  b_count_of : Binds K t.d_count_of ["sizes"] []
  F_split_number : Fun K "split_number" "split_number" s_split_number t.a_split_number t.d_split_number
  m_split_number : mg "split_number" = some (.ref t.a_split_number)
  b_split_number : Binds K t.d_split_number ["sizes", "number"] []
  F_refuse_long : FunX K "refuse_long" "refuse_long" s_refuse_long t.a_refuse_long t.d_refuse_long
  m_refuse_long : mg "refuse_long" = some (.ref t.a_refuse_long)
  b_refuse_long : Binds K t.d_refuse_long ["count"] []
  F_places : FunX K "places" "places" s_places t.a_places t.d_places
  m_places : mg "places" = some (.ref t.a_places)
  b_places : Binds K t.d_places ["sizes"] []
  F__law_draw : Fun K "_law_draw" "_law_draw" s__law_draw t.a__law_draw t.d__law_draw
  m__law_draw : mg "_law_draw" = some (.ref t.a__law_draw)
  b__law_draw : Binds K t.d__law_draw ["_law_script", "_law_k", "_law_many"] []
  F__law_whole : Fun K "_law_whole" "_law_whole" s__law_whole t.a__law_whole t.d__law_whole
  m__law_whole : mg "_law_whole" = some (.ref t.a__law_whole)
  b__law_whole : Binds K t.d__law_whole ["_law_found"] []
  F__law_great : Fun K "_law_great" "_law_great" s__law_great t.a__law_great t.d__law_great
  m__law_great : mg "_law_great" = some (.ref t.a__law_great)
  b__law_great : Binds K t.d__law_great ["_law_script", "_law_way"] []
  F__law_sizes : Fun K "_law_sizes" "_law_sizes" s__law_sizes t.a__law_sizes t.d__law_sizes
  m__law_sizes : mg "_law_sizes" = some (.ref t.a__law_sizes)
  b__law_sizes : Binds K t.d__law_sizes ["_law_script"] []
  F__law_count : Fun K "_law_count" "_law_count" s__law_count t.a__law_count t.d__law_count
  m__law_count : mg "_law_count" = some (.ref t.a__law_count)
  b__law_count : Binds K t.d__law_count ["_law_sizes_here"] []
  F__law_all : Fun K "_law_all" "_law_all" s__law_all t.a__law_all t.d__law_all
  m__law_all : mg "_law_all" = some (.ref t.a__law_all)
  b__law_all : Binds K t.d__law_all ["_law_sizes_here"] []
  F__law_right : Fun K "_law_right" "_law_right" s__law_right t.a__law_right t.d__law_right
  m__law_right : mg "_law_right" = some (.ref t.a__law_right)
  b__law_right : Binds K t.d__law_right ["_law_found", "_law_due"] []
  F__law_refused : Fun K "_law_refused" "_law_refused" s__law_refused t.a__law_refused t.d__law_refused
  m__law_refused : mg "_law_refused" = some (.ref t.a__law_refused)
  b__law_refused : Binds K t.d__law_refused ["_law_sizes_here", "_law_count_here"] []
  F_law : Fun K "law" "law" s_law t.a_law t.d_law
  m_law : mg "law" = some (.ref t.a_law)
  b_law : Binds K t.d_law ["_law_script"] []
  z_ValueError : mg "ValueError" = none
  z_bool : mg "bool" = none
  z_int : mg "int" = none
  z_isinstance : mg "isinstance" = none
  z_len : mg "len" = none
  z_list : mg "list" = none
  z_range : mg "range" = none
  z_reversed : mg "reversed" = none
  z_tuple : mg "tuple" = none
theorem Tx.e_TooMany {K : PySem.W.Frag} {mg : Str → Option Value} {t : Adr} (T : Tx K mg t) : ECls K t.a_TooMany := ⟨T.ga_TooMany, T.gn_TooMany, T.mb_TooMany, T.mo_TooMany, T.fc_TooMany, T.ocs, T.oct, T.hd_TooMany⟩
theorem Tx.k_TooMany_NoPlace {K : PySem.W.Frag} {mg : Str → Option Value} {t : Adr} (T : Tx K mg t) : PySem.W.kitOne K (.ref t.a_TooMany) (.ref t.a_NoPlace) = some false := kit_no T.kn_TooMany_NoPlace T.kc_TooMany_NoPlace T.kt_TooMany_NoPlace T.ks_TooMany_NoPlace
theorem Tx.k_TooMany_NoCells {K : PySem.W.Frag} {mg : Str → Option Value} {t : Adr} (T : Tx K mg t) : PySem.W.kitOne K (.ref t.a_TooMany) (.ref t.a_NoCells) = some false := kit_no T.kn_TooMany_NoCells T.kc_TooMany_NoCells T.kt_TooMany_NoCells T.ks_TooMany_NoCells
theorem Tx.k_TooMany_ValueError {K : PySem.W.Frag} {mg : Str → Option Value} {t : Adr} (T : Tx K mg t) : PySem.W.kitOne K (.ref t.a_TooMany) (.type "ValueError") = some true := kit_ty (by decide +kernel) T.ks_TooMany_ValueError

local macro_rules | `(tactic| simp_all only [$xs,*]) => do
  let ys := xs.getElems.map fun x => (⟨x.raw⟩ : Lean.TSyntax `Lean.Parser.Tactic.simpLemma)
  `(tactic| simp (config := { contextual := true, maxDischargeDepth := 30, maxSteps := 10000000 }) only [↓reduceIte, ↓optK_some, ↓tVar_0, ↓gName_0, ↓tVar_1, ↓gName_1, ↓tVar_2, ↓gName_2, ↓tVar_3, ↓gName_3, ↓tVar_4, ↓gName_4, ↓tVar_5, ↓gName_5, ↓tVar_6, ↓gName_6, ↓tVar_7, ↓gName_7, ↓tVar_8, ↓gName_8, ↓tVar_9, ↓gName_9, ↓tVar_10, ↓gName_10, ↓tVar_11, ↓gName_11, ↓tVar_12, ↓gName_12, ↓tVar_13, ↓gName_13, ↓tVar_14, ↓gName_14, ↓tVar_15, ↓gName_15, ↓tVar_16, ↓gName_16, ↓tVar_17, ↓gName_17, ↓tVar_18, ↓gName_18, ↓tVar_19, ↓gName_19, ↓tVar_20, ↓gName_20, ↓tVar_21, ↓gName_21, ↓tVar_22, ↓gName_22, ↓tVar_23, ↓gName_23, ↓tVar_24, ↓gName_24, ↓tVar_25, ↓gName_25, ↓m_kOp', ↓m_kOp, ↓m_tOp, ↓m_tC, ↓m_kUn, ↓m_tUn, ↓m_rI0, ↓m_rI, ↓m_rU, ↓m_rEq_int, ↓m_rNe_int, ↓m_rEq_bl, ↓m_rNe_bl, ↓m_rEq_str, ↓m_rNe_str, ↓oV_none, ↓oV_some, ↓m_rIsN_non, ↓m_rNotN_non, ↓m_rIsN_int, ↓m_rNotN_int, ↓m_rIsN_ref, ↓m_rNotN_ref, ↓m_rIsN_bl, ↓m_rNotN_bl, ↓m_rIsN_str, ↓m_rNotN_str, ↓m_kTest, ↓m_tTest, ↓m_tB, ↓m_kNot, ↓m_tNot, ↓m_kAnd, ↓m_tAnd, ↓m_kOr, ↓m_tOr, ↓m_kAndV, ↓m_tAndV, ↓m_kOrV, ↓m_tOrV, ↓m_kNotV, ↓m_tNotV, ↓m_kIfE, ↓m_tIf, ↓m_kCh3, ↓m_kCh2, ↓m_kCh1, ↓m_kCh0, ↓m_tChain, ↓m_tNil, ↓m_kCons', ↓m_kCons, ↓m_tCons, ↓m_kTup, ↓m_tTup, ↓m_kLst, ↓m_tLst, ↓m_kCall_0, ↓m_kCall_1, ↓m_kCall_2, ↓m_kCall_3, ↓m_kCall_4, ↓m_kCall_5, ↓m_kCall_6, ↓m_kCall_7, ↓m_kCall_8, ↓m_tCall, ↓m_kCB, ↓m_tCB, ↓m_tNext, ↓m_tSeq, ↓m_tBreak, ↓m_tCont, ↓m_tRet, ↓m_tRetN, ↓m_kDrop, ↓m_tDrop, ↓m_kIfS, ↓m_tIfS, ↓m_kAsg, ↓m_tAsg, ↓m_kPar, ↓m_tPar, ↓m_gNil, ↓m_kGs, ↓m_gCons, ↓m_kLen, ↓m_qLen, ↓m_qLenS, ↓m_kIx', ↓m_kIx, ↓m_qIx, ↓m_kNewL, ↓m_qList, ↓m_kTupO_l, ↓m_kTupO_t, ↓m_qTuple, ↓m_qAbs, ↓m_qMax, ↓m_qMin, ↓m_qStr, ↓m_qIsi_int, ↓m_qIsi_bool, ↓m_qIsi_tuple, ↓m_qIsi_list, ↓m_qIsi_str, ↓m_qIsi_dict, ↓m_kIsi_Nb, ↓m_kIsi_Ni, ↓m_kIsi_Ns, ↓m_kIsi_Nl, ↓m_kIsi_Nt, ↓m_kIsi_Nd, ↓m_kIsi_bb, ↓m_kIsi_bi, ↓m_kIsi_bs, ↓m_kIsi_bl, ↓m_kIsi_bt, ↓m_kIsi_bd, ↓m_kIsi_ib, ↓m_kIsi_ii, ↓m_kIsi_is, ↓m_kIsi_il, ↓m_kIsi_it, ↓m_kIsi_id, ↓m_kIsi_sb, ↓m_kIsi_si, ↓m_kIsi_ss, ↓m_kIsi_sl, ↓m_kIsi_st, ↓m_kIsi_sd, ↓m_kIsi_lb, ↓m_kIsi_li, ↓m_kIsi_ls, ↓m_kIsi_ll, ↓m_kIsi_lt, ↓m_kIsi_ld, ↓m_kIsi_tb, ↓m_kIsi_ti, ↓m_kIsi_ts, ↓m_kIsi_tl, ↓m_kIsi_tt, ↓m_kIsi_td, ↓m_kIsi_db, ↓m_kIsi_di, ↓m_kIsi_ds, ↓m_kIsi_dl, ↓m_kIsi_dt, ↓m_kIsi_dd, ↓m_kBM', ↓m_kBM, ↓m_tBM, ↓m_kBM0, ↓m_tBM0, ↓m_kApp, ↓m_rAppend, ↓m_kRev, ↓m_rReverse, ↓m_kPop', ↓m_kPop, ↓m_rPop, ↓m_kCat2, ↓m_kCat1, ↓m_rCat, ↓m_kSet', ↓m_kSet, ↓m_rSetL, ↓m_kGSub3, ↓m_kGSub2, ↓m_gSub, ↓m_kGT, ↓m_qGT, ↓m_kBody, ↓m_tFor, ↓m_kR1, ↓m_iRng1, ↓m_kR2, ↓m_iRng2, ↓m_kISq'_l, ↓m_kISq'_t, ↓m_kISq, ↓m_iSeq, ↓m_kWh, ↓m_tCallX, ↓m_kTry, ↓m_tTry, ↓m_kRaise, ↓m_tRaise, ↓m_kExc, ↓m_tExc, ↓m_tLost, ↓m_kSetE, ↓m_kExcAs, ↓m_tExcAs, ↓m_del, ↓m_kDel, ↓m_gDel_0, ↓m_gDel_1, ↓m_gDel_2, ↓m_gDel_3, ↓m_gDel_4, ↓m_gDel_5, ↓m_gDel_6, ↓m_gDel_7, ↓m_gDel_8, ↓m_gDel_9, ↓m_gDel_10, ↓m_gDel_11, ↓m_gDel_12, ↓m_gDel_13, ↓m_gDel_14, ↓m_gDel_15, ↓m_gDel_16, ↓m_gDel_17, ↓m_gDel_18, ↓m_gDel_19, ↓m_gDel_20, ↓m_gDel_21, ↓m_gDel_22, ↓m_gDel_23, ↓m_gDel_24, ↓m_gDel_25, ↓m_dictO_none, ↓m_dictO_some, ↓m_kXd, ↓m_kE4, ↓m_kE3, ↓m_kE2, ↓m_kE1, ↓m_qIsE, ↓m_kC3, ↓m_kC2, ↓m_kC1_1, ↓m_kC1_2, ↓m_tYes, ↓m_tComp, ↓m_kSetC, ↓m_tSetC, ↓m_datV, ↓m_datF_non, ↓m_datF_bl, ↓m_datF_int, ↓m_datF_str, ↓m_datF_ref, ↓m_datO_lst, ↓m_datO_tup, ↓m_allSome_nil, ↓m_allSome_cons, ↓m_kEq2_t, ↓m_kEq2_f, ↓m_kEq1, ↓m_qEq_ref, ↓m_qEq_refr, ↓m_qEq_non_non, ↓m_qNe_non_non, ↓m_qEq_non_int, ↓m_qNe_non_int, ↓m_qEq_non_bl, ↓m_qNe_non_bl, ↓m_qEq_non_str, ↓m_qNe_non_str, ↓m_qEq_int_non, ↓m_qNe_int_non, ↓m_qEq_int_int, ↓m_qNe_int_int, ↓m_qEq_int_str, ↓m_qNe_int_str, ↓m_qEq_bl_non, ↓m_qNe_bl_non, ↓m_qEq_bl_bl, ↓m_qNe_bl_bl, ↓m_qEq_bl_str, ↓m_qNe_bl_str, ↓m_qEq_str_non, ↓m_qNe_str_non, ↓m_qEq_str_int, ↓m_qNe_str_int, ↓m_qEq_str_bl, ↓m_qNe_str_bl, ↓m_qEq_str_str, ↓m_qNe_str_str, ↓m_kInts, ↓m_kInts_nil, ↓m_kInts_1, ↓m_kInts_2, ↓m_kInts_3, ↓m_kSlN, ↓m_qSlL, ↓m_kSl3, ↓m_kSl2, ↓m_kSl1, ↓m_tSl, ↓m_tNoPart, ↓m_kPart, ↓m_tPart, ↓m_tDNewK, ↓m_kD2, ↓m_kD1, ↓m_tDisp, ↓m_newK, ↓m_kQT, ↓m_kQL, ↓m_qTup, ↓m_qLst, ↓m_kN, ↓m_nList, ↓m_kNT_l, ↓m_kNT_t, ↓m_nTuple, ↓m_kNC2, ↓m_kNC1, ↓m_nCat, ↓m_kNS, ↓m_nSl, ↓m_nDNew, ↓m_qGL, ↓m_tCallKX, ↓m_kCK0, ↓m_kCK1, ↓m_gK1, ↓m_gK2, ↓m_kRvJ, ↓m_kRvI, ↓m_iRev, ↓m_kSumI, ↓m_qSum, ↓m_kBls, ↓m_kAllB, ↓m_qAll, ↓m_kZ2_l, ↓m_kZ2_t, ↓m_kZ1_l, ↓m_kZ1_t, ↓m_kZ0, ↓m_iZip, ↓m_kCm2, ↓m_kCm_1, ↓m_kCm_2, ↓m_rep_1, ↓m_rep_2, ↓m_rep_3, ↓m_kCm_3, ↓m_kFldV, ↓m_kFldO, ↓m_kFld, ↓m_nFld, ↓m_kSetO, ↓m_kSet1, ↓m_kSet0, ↓m_nSetF, ↓m_kMethA_0, ↓m_kMethA_1, ↓m_kMethA_2, ↓m_kMethA_3, ↓m_kMethO, ↓m_kMeth, ↓m_nMeth, ↓m_kMade, ↓m_kMake_0, ↓m_kMake_1, ↓m_kMake_2, ↓m_kMake_3, ↓m_nMake, ↓m_tXI, ↓m_xSetF, ↓m_kXS0, ↓m_tRaiseI, ↓m_tXF, ↓m_kCT1, ↓m_nCatT, optK_some, itemsAt, lstAt, tupAt, seqO_lst, seqO_tup, seqO_frz, lstO_lst, tupO_tup, bind_some', upd_same, upd_upd, upd_old, tyO_lst, tyO_tup, tyO_dK, tyN_non, tyN_bl, tyN_int, tyN_str, tyN_ref, tyV_list, isW_int', isW_bl', isW_non', isW_str', isW_ref', cx_K, ofString_inj, refC_ref, clsV_ref, clsV_ty, atI_0, atI_1, atI_2, atI_3, atI_4, atI_5, atI_6, atI_7, atI_8, atI_9, atI_10, atI_11, eqv_int, eqv_bool, eqv_str, eqv_none, eqv_tuple, eqv_list, eqvAll_nil, eqvAll_cons, eqvAll_l, eqvAll_r, eqvAll_ints, allSome_ints, SqL_upd, CDiv_eq, CMul_l, CMul_r, CPow_10, CPow_2, Option.isSome_some, Option.isSome_none, Option.map_some, List.length_cons, List.length_nil, List.length_map, List.map_cons, List.map_nil, and_true, true_and, and_self, implies_true, reduceCtorEq, decide_true, decide_false, Bool.not_true, Bool.not_false, if_true, if_false, decide_eq_true_eq, Bool.false_eq_true, Bool.not_eq_true', decide_eq_false_iff_not, Bool.and_true, Bool.true_and, Bool.and_self, Bool.and_eq_true, Int.reduceToNat, Int.reducePow, Int.reduceMul, Int.reduceAdd, Int.reduceSub, Int.reduceNeg, Int.reduceLT, Int.reduceLE, Int.reduceEq, Int.reduceNe, Int.reduceDiv, Int.reduceMod, Nat.reduceAdd, Nat.reduceLeDiff, Nat.reduceLT, Nat.reduceMul, Nat.reducePow, gt_iff_lt, ge_iff_le, ne_eq, false_implies, true_implies, eq_self, String.reduceEq, Int.cast_ofNat_Int, not_true_eq_false, not_false_eq_true, false_and, and_false, List.cons_append, List.nil_append, List.append_nil, lenLe, lenLt, ↓exO_non, ↓exO_int, ↓exO_o, $ys,*, *])
local macro_rules | `(tactic| simp_all [$xs,*]) => do
  let ys := xs.getElems.map fun x => (⟨x.raw⟩ : Lean.TSyntax `Lean.Parser.Tactic.simpLemma)
  `(tactic| simp (config := { contextual := true, maxDischargeDepth := 30, maxSteps := 10000000 }) only [↓reduceIte, ↓optK_some, ↓tVar_0, ↓gName_0, ↓tVar_1, ↓gName_1, ↓tVar_2, ↓gName_2, ↓tVar_3, ↓gName_3, ↓tVar_4, ↓gName_4, ↓tVar_5, ↓gName_5, ↓tVar_6, ↓gName_6, ↓tVar_7, ↓gName_7, ↓tVar_8, ↓gName_8, ↓tVar_9, ↓gName_9, ↓tVar_10, ↓gName_10, ↓tVar_11, ↓gName_11, ↓tVar_12, ↓gName_12, ↓tVar_13, ↓gName_13, ↓tVar_14, ↓gName_14, ↓tVar_15, ↓gName_15, ↓tVar_16, ↓gName_16, ↓tVar_17, ↓gName_17, ↓tVar_18, ↓gName_18, ↓tVar_19, ↓gName_19, ↓tVar_20, ↓gName_20, ↓tVar_21, ↓gName_21, ↓tVar_22, ↓gName_22, ↓tVar_23, ↓gName_23, ↓tVar_24, ↓gName_24, ↓tVar_25, ↓gName_25, ↓m_kOp', ↓m_kOp, ↓m_tOp, ↓m_tC, ↓m_kUn, ↓m_tUn, ↓m_rI0, ↓m_rI, ↓m_rU, ↓m_rEq_int, ↓m_rNe_int, ↓m_rEq_bl, ↓m_rNe_bl, ↓m_rEq_str, ↓m_rNe_str, ↓oV_none, ↓oV_some, ↓m_rIsN_non, ↓m_rNotN_non, ↓m_rIsN_int, ↓m_rNotN_int, ↓m_rIsN_ref, ↓m_rNotN_ref, ↓m_rIsN_bl, ↓m_rNotN_bl, ↓m_rIsN_str, ↓m_rNotN_str, ↓m_kTest, ↓m_tTest, ↓m_tB, ↓m_kNot, ↓m_tNot, ↓m_kAnd, ↓m_tAnd, ↓m_kOr, ↓m_tOr, ↓m_kAndV, ↓m_tAndV, ↓m_kOrV, ↓m_tOrV, ↓m_kNotV, ↓m_tNotV, ↓m_kIfE, ↓m_tIf, ↓m_kCh3, ↓m_kCh2, ↓m_kCh1, ↓m_kCh0, ↓m_tChain, ↓m_tNil, ↓m_kCons', ↓m_kCons, ↓m_tCons, ↓m_kTup, ↓m_tTup, ↓m_kLst, ↓m_tLst, ↓m_kCall_0, ↓m_kCall_1, ↓m_kCall_2, ↓m_kCall_3, ↓m_kCall_4, ↓m_kCall_5, ↓m_kCall_6, ↓m_kCall_7, ↓m_kCall_8, ↓m_tCall, ↓m_kCB, ↓m_tCB, ↓m_tNext, ↓m_tSeq, ↓m_tBreak, ↓m_tCont, ↓m_tRet, ↓m_tRetN, ↓m_kDrop, ↓m_tDrop, ↓m_kIfS, ↓m_tIfS, ↓m_kAsg, ↓m_tAsg, ↓m_kPar, ↓m_tPar, ↓m_gNil, ↓m_kGs, ↓m_gCons, ↓m_kLen, ↓m_qLen, ↓m_qLenS, ↓m_kIx', ↓m_kIx, ↓m_qIx, ↓m_kNewL, ↓m_qList, ↓m_kTupO_l, ↓m_kTupO_t, ↓m_qTuple, ↓m_qAbs, ↓m_qMax, ↓m_qMin, ↓m_qStr, ↓m_qIsi_int, ↓m_qIsi_bool, ↓m_qIsi_tuple, ↓m_qIsi_list, ↓m_qIsi_str, ↓m_qIsi_dict, ↓m_kIsi_Nb, ↓m_kIsi_Ni, ↓m_kIsi_Ns, ↓m_kIsi_Nl, ↓m_kIsi_Nt, ↓m_kIsi_Nd, ↓m_kIsi_bb, ↓m_kIsi_bi, ↓m_kIsi_bs, ↓m_kIsi_bl, ↓m_kIsi_bt, ↓m_kIsi_bd, ↓m_kIsi_ib, ↓m_kIsi_ii, ↓m_kIsi_is, ↓m_kIsi_il, ↓m_kIsi_it, ↓m_kIsi_id, ↓m_kIsi_sb, ↓m_kIsi_si, ↓m_kIsi_ss, ↓m_kIsi_sl, ↓m_kIsi_st, ↓m_kIsi_sd, ↓m_kIsi_lb, ↓m_kIsi_li, ↓m_kIsi_ls, ↓m_kIsi_ll, ↓m_kIsi_lt, ↓m_kIsi_ld, ↓m_kIsi_tb, ↓m_kIsi_ti, ↓m_kIsi_ts, ↓m_kIsi_tl, ↓m_kIsi_tt, ↓m_kIsi_td, ↓m_kIsi_db, ↓m_kIsi_di, ↓m_kIsi_ds, ↓m_kIsi_dl, ↓m_kIsi_dt, ↓m_kIsi_dd, ↓m_kBM', ↓m_kBM, ↓m_tBM, ↓m_kBM0, ↓m_tBM0, ↓m_kApp, ↓m_rAppend, ↓m_kRev, ↓m_rReverse, ↓m_kPop', ↓m_kPop, ↓m_rPop, ↓m_kCat2, ↓m_kCat1, ↓m_rCat, ↓m_kSet', ↓m_kSet, ↓m_rSetL, ↓m_kGSub3, ↓m_kGSub2, ↓m_gSub, ↓m_kGT, ↓m_qGT, ↓m_kBody, ↓m_tFor, ↓m_kR1, ↓m_iRng1, ↓m_kR2, ↓m_iRng2, ↓m_kISq'_l, ↓m_kISq'_t, ↓m_kISq, ↓m_iSeq, ↓m_kWh, ↓m_tCallX, ↓m_kTry, ↓m_tTry, ↓m_kRaise, ↓m_tRaise, ↓m_kExc, ↓m_tExc, ↓m_tLost, ↓m_kSetE, ↓m_kExcAs, ↓m_tExcAs, ↓m_del, ↓m_kDel, ↓m_gDel_0, ↓m_gDel_1, ↓m_gDel_2, ↓m_gDel_3, ↓m_gDel_4, ↓m_gDel_5, ↓m_gDel_6, ↓m_gDel_7, ↓m_gDel_8, ↓m_gDel_9, ↓m_gDel_10, ↓m_gDel_11, ↓m_gDel_12, ↓m_gDel_13, ↓m_gDel_14, ↓m_gDel_15, ↓m_gDel_16, ↓m_gDel_17, ↓m_gDel_18, ↓m_gDel_19, ↓m_gDel_20, ↓m_gDel_21, ↓m_gDel_22, ↓m_gDel_23, ↓m_gDel_24, ↓m_gDel_25, ↓m_dictO_none, ↓m_dictO_some, ↓m_kXd, ↓m_kE4, ↓m_kE3, ↓m_kE2, ↓m_kE1, ↓m_qIsE, ↓m_kC3, ↓m_kC2, ↓m_kC1_1, ↓m_kC1_2, ↓m_tYes, ↓m_tComp, ↓m_kSetC, ↓m_tSetC, ↓m_datV, ↓m_datF_non, ↓m_datF_bl, ↓m_datF_int, ↓m_datF_str, ↓m_datF_ref, ↓m_datO_lst, ↓m_datO_tup, ↓m_allSome_nil, ↓m_allSome_cons, ↓m_kEq2_t, ↓m_kEq2_f, ↓m_kEq1, ↓m_qEq_ref, ↓m_qEq_refr, ↓m_qEq_non_non, ↓m_qNe_non_non, ↓m_qEq_non_int, ↓m_qNe_non_int, ↓m_qEq_non_bl, ↓m_qNe_non_bl, ↓m_qEq_non_str, ↓m_qNe_non_str, ↓m_qEq_int_non, ↓m_qNe_int_non, ↓m_qEq_int_int, ↓m_qNe_int_int, ↓m_qEq_int_str, ↓m_qNe_int_str, ↓m_qEq_bl_non, ↓m_qNe_bl_non, ↓m_qEq_bl_bl, ↓m_qNe_bl_bl, ↓m_qEq_bl_str, ↓m_qNe_bl_str, ↓m_qEq_str_non, ↓m_qNe_str_non, ↓m_qEq_str_int, ↓m_qNe_str_int, ↓m_qEq_str_bl, ↓m_qNe_str_bl, ↓m_qEq_str_str, ↓m_qNe_str_str, ↓m_kInts, ↓m_kInts_nil, ↓m_kInts_1, ↓m_kInts_2, ↓m_kInts_3, ↓m_kSlN, ↓m_qSlL, ↓m_kSl3, ↓m_kSl2, ↓m_kSl1, ↓m_tSl, ↓m_tNoPart, ↓m_kPart, ↓m_tPart, ↓m_tDNewK, ↓m_kD2, ↓m_kD1, ↓m_tDisp, ↓m_kQT, ↓m_kQL, ↓m_qTup, ↓m_qLst, ↓m_kN, ↓m_nList, ↓m_kNT_l, ↓m_kNT_t, ↓m_nTuple, ↓m_kNC2, ↓m_kNC1, ↓m_nCat, ↓m_kNS, ↓m_nSl, ↓m_nDNew, ↓m_qGL, ↓m_tCallKX, ↓m_kCK0, ↓m_kCK1, ↓m_gK1, ↓m_gK2, ↓m_kRvJ, ↓m_kRvI, ↓m_iRev, ↓m_kSumI, ↓m_qSum, ↓m_kBls, ↓m_kAllB, ↓m_qAll, ↓m_kZ2_l, ↓m_kZ2_t, ↓m_kZ1_l, ↓m_kZ1_t, ↓m_kZ0, ↓m_iZip, ↓m_kCm2, ↓m_kCm_1, ↓m_kCm_2, ↓m_rep_1, ↓m_rep_2, ↓m_rep_3, ↓m_kCm_3, ↓m_kFldV, ↓m_kFldO, ↓m_kFld, ↓m_nFld, ↓m_kSetO, ↓m_kSet1, ↓m_kSet0, ↓m_nSetF, ↓m_kMethA_0, ↓m_kMethA_1, ↓m_kMethA_2, ↓m_kMethA_3, ↓m_kMethO, ↓m_kMeth, ↓m_nMeth, ↓m_kMade, ↓m_kMake_0, ↓m_kMake_1, ↓m_kMake_2, ↓m_kMake_3, ↓m_nMake, ↓m_tXI, ↓m_xSetF, ↓m_kXS0, ↓m_tRaiseI, ↓m_tXF, ↓m_kCT1, ↓m_nCatT, optK_some, itemsAt, lstAt, tupAt, seqO_lst, seqO_tup, seqO_frz, lstO_lst, tupO_tup, bind_some', upd_same, upd_upd, upd_old, tyO_lst, tyO_tup, tyO_dK, tyN_non, tyN_bl, tyN_int, tyN_str, tyN_ref, tyV_list, isW_int', isW_bl', isW_non', isW_str', isW_ref', cx_K, ofString_inj, refC_ref, clsV_ref, clsV_ty, atI_0, atI_1, atI_2, atI_3, atI_4, atI_5, atI_6, atI_7, atI_8, atI_9, atI_10, atI_11, eqv_int, eqv_bool, eqv_str, eqv_none, eqv_tuple, eqv_list, eqvAll_nil, eqvAll_cons, eqvAll_l, eqvAll_r, eqvAll_ints, allSome_ints, SqL_upd, CDiv_eq, CMul_l, CMul_r, CPow_10, CPow_2, Option.isSome_some, Option.isSome_none, Option.map_some, List.length_cons, List.length_nil, List.length_map, List.map_cons, List.map_nil, and_true, true_and, and_self, implies_true, reduceCtorEq, decide_true, decide_false, Bool.not_true, Bool.not_false, if_true, if_false, decide_eq_true_eq, Bool.false_eq_true, Bool.not_eq_true', decide_eq_false_iff_not, Bool.and_true, Bool.true_and, Bool.and_self, Bool.and_eq_true, Int.reduceToNat, Int.reducePow, Int.reduceMul, Int.reduceAdd, Int.reduceSub, Int.reduceNeg, Int.reduceLT, Int.reduceLE, Int.reduceEq, Int.reduceNe, Int.reduceDiv, Int.reduceMod, Nat.reduceAdd, Nat.reduceLeDiff, Nat.reduceLT, Nat.reduceMul, Nat.reducePow, gt_iff_lt, ge_iff_le, ne_eq, false_implies, true_implies, eq_self, String.reduceEq, Int.cast_ofNat_Int, not_true_eq_false, not_false_eq_true, false_and, and_false, List.cons_append, List.nil_append, List.append_nil, lenLe, lenLt, ↓exO_non, ↓exO_int, ↓exO_o, $ys,*, *])
local macro_rules | `(tactic| simp_all (failIfUnchanged := false) only [$xs,*]) => do
  let ys := xs.getElems.map fun x => (⟨x.raw⟩ : Lean.TSyntax `Lean.Parser.Tactic.simpLemma)
  `(tactic| simp (config := { maxDischargeDepth := 30, maxSteps := 10000000 }) only [↓reduceIte, ↓optK_some, ↓tVar_0, ↓gName_0, ↓tVar_1, ↓gName_1, ↓tVar_2, ↓gName_2, ↓tVar_3, ↓gName_3, ↓tVar_4, ↓gName_4, ↓tVar_5, ↓gName_5, ↓tVar_6, ↓gName_6, ↓tVar_7, ↓gName_7, ↓tVar_8, ↓gName_8, ↓tVar_9, ↓gName_9, ↓tVar_10, ↓gName_10, ↓tVar_11, ↓gName_11, ↓tVar_12, ↓gName_12, ↓tVar_13, ↓gName_13, ↓tVar_14, ↓gName_14, ↓tVar_15, ↓gName_15, ↓tVar_16, ↓gName_16, ↓tVar_17, ↓gName_17, ↓tVar_18, ↓gName_18, ↓tVar_19, ↓gName_19, ↓tVar_20, ↓gName_20, ↓tVar_21, ↓gName_21, ↓tVar_22, ↓gName_22, ↓tVar_23, ↓gName_23, ↓tVar_24, ↓gName_24, ↓tVar_25, ↓gName_25, ↓m_kOp', ↓m_kOp, ↓m_tOp, ↓m_tC, ↓m_kUn, ↓m_tUn, ↓m_rI0, ↓m_rI, ↓m_rU, ↓m_rEq_int, ↓m_rNe_int, ↓m_rEq_bl, ↓m_rNe_bl, ↓m_rEq_str, ↓m_rNe_str, ↓oV_none, ↓oV_some, ↓m_rIsN_non, ↓m_rNotN_non, ↓m_rIsN_int, ↓m_rNotN_int, ↓m_rIsN_ref, ↓m_rNotN_ref, ↓m_rIsN_bl, ↓m_rNotN_bl, ↓m_rIsN_str, ↓m_rNotN_str, ↓m_kTest, ↓m_tTest, ↓m_tB, ↓m_kNot, ↓m_tNot, ↓m_kAnd, ↓m_tAnd, ↓m_kOr, ↓m_tOr, ↓m_kAndV, ↓m_tAndV, ↓m_kOrV, ↓m_tOrV, ↓m_kNotV, ↓m_tNotV, ↓m_kIfE, ↓m_tIf, ↓m_kCh3, ↓m_kCh2, ↓m_kCh1, ↓m_kCh0, ↓m_tChain, ↓m_tNil, ↓m_kCons', ↓m_kCons, ↓m_tCons, ↓m_kTup, ↓m_tTup, ↓m_kLst, ↓m_tLst, ↓m_kCall_0, ↓m_kCall_1, ↓m_kCall_2, ↓m_kCall_3, ↓m_kCall_4, ↓m_kCall_5, ↓m_kCall_6, ↓m_kCall_7, ↓m_kCall_8, ↓m_tCall, ↓m_kCB, ↓m_tCB, ↓m_tNext, ↓m_tSeq, ↓m_tBreak, ↓m_tCont, ↓m_tRet, ↓m_tRetN, ↓m_kDrop, ↓m_tDrop, ↓m_kIfS, ↓m_tIfS, ↓m_kAsg, ↓m_tAsg, ↓m_kPar, ↓m_tPar, ↓m_gNil, ↓m_kGs, ↓m_gCons, ↓m_kLen, ↓m_qLen, ↓m_qLenS, ↓m_kIx', ↓m_kIx, ↓m_qIx, ↓m_kNewL, ↓m_qList, ↓m_kTupO_l, ↓m_kTupO_t, ↓m_qTuple, ↓m_qAbs, ↓m_qMax, ↓m_qMin, ↓m_qStr, ↓m_qIsi_int, ↓m_qIsi_bool, ↓m_qIsi_tuple, ↓m_qIsi_list, ↓m_qIsi_str, ↓m_qIsi_dict, ↓m_kIsi_Nb, ↓m_kIsi_Ni, ↓m_kIsi_Ns, ↓m_kIsi_Nl, ↓m_kIsi_Nt, ↓m_kIsi_Nd, ↓m_kIsi_bb, ↓m_kIsi_bi, ↓m_kIsi_bs, ↓m_kIsi_bl, ↓m_kIsi_bt, ↓m_kIsi_bd, ↓m_kIsi_ib, ↓m_kIsi_ii, ↓m_kIsi_is, ↓m_kIsi_il, ↓m_kIsi_it, ↓m_kIsi_id, ↓m_kIsi_sb, ↓m_kIsi_si, ↓m_kIsi_ss, ↓m_kIsi_sl, ↓m_kIsi_st, ↓m_kIsi_sd, ↓m_kIsi_lb, ↓m_kIsi_li, ↓m_kIsi_ls, ↓m_kIsi_ll, ↓m_kIsi_lt, ↓m_kIsi_ld, ↓m_kIsi_tb, ↓m_kIsi_ti, ↓m_kIsi_ts, ↓m_kIsi_tl, ↓m_kIsi_tt, ↓m_kIsi_td, ↓m_kIsi_db, ↓m_kIsi_di, ↓m_kIsi_ds, ↓m_kIsi_dl, ↓m_kIsi_dt, ↓m_kIsi_dd, ↓m_kBM', ↓m_kBM, ↓m_tBM, ↓m_kBM0, ↓m_tBM0, ↓m_kApp, ↓m_rAppend, ↓m_kRev, ↓m_rReverse, ↓m_kPop', ↓m_kPop, ↓m_rPop, ↓m_kCat2, ↓m_kCat1, ↓m_rCat, ↓m_kSet', ↓m_kSet, ↓m_rSetL, ↓m_kGSub3, ↓m_kGSub2, ↓m_gSub, ↓m_kGT, ↓m_qGT, ↓m_kBody, ↓m_tFor, ↓m_kR1, ↓m_iRng1, ↓m_kR2, ↓m_iRng2, ↓m_kISq'_l, ↓m_kISq'_t, ↓m_kISq, ↓m_iSeq, ↓m_kWh, ↓m_tCallX, ↓m_kTry, ↓m_tTry, ↓m_kRaise, ↓m_tRaise, ↓m_kExc, ↓m_tExc, ↓m_tLost, ↓m_kSetE, ↓m_kExcAs, ↓m_tExcAs, ↓m_del, ↓m_kDel, ↓m_gDel_0, ↓m_gDel_1, ↓m_gDel_2, ↓m_gDel_3, ↓m_gDel_4, ↓m_gDel_5, ↓m_gDel_6, ↓m_gDel_7, ↓m_gDel_8, ↓m_gDel_9, ↓m_gDel_10, ↓m_gDel_11, ↓m_gDel_12, ↓m_gDel_13, ↓m_gDel_14, ↓m_gDel_15, ↓m_gDel_16, ↓m_gDel_17, ↓m_gDel_18, ↓m_gDel_19, ↓m_gDel_20, ↓m_gDel_21, ↓m_gDel_22, ↓m_gDel_23, ↓m_gDel_24, ↓m_gDel_25, ↓m_dictO_none, ↓m_dictO_some, ↓m_kXd, ↓m_kE4, ↓m_kE3, ↓m_kE2, ↓m_kE1, ↓m_qIsE, ↓m_kC3, ↓m_kC2, ↓m_kC1_1, ↓m_kC1_2, ↓m_tYes, ↓m_tComp, ↓m_kSetC, ↓m_tSetC, ↓m_datV, ↓m_datF_non, ↓m_datF_bl, ↓m_datF_int, ↓m_datF_str, ↓m_datF_ref, ↓m_datO_lst, ↓m_datO_tup, ↓m_allSome_nil, ↓m_allSome_cons, ↓m_kEq2_t, ↓m_kEq2_f, ↓m_kEq1, ↓m_qEq_ref, ↓m_qEq_refr, ↓m_qEq_non_non, ↓m_qNe_non_non, ↓m_qEq_non_int, ↓m_qNe_non_int, ↓m_qEq_non_bl, ↓m_qNe_non_bl, ↓m_qEq_non_str, ↓m_qNe_non_str, ↓m_qEq_int_non, ↓m_qNe_int_non, ↓m_qEq_int_int, ↓m_qNe_int_int, ↓m_qEq_int_str, ↓m_qNe_int_str, ↓m_qEq_bl_non, ↓m_qNe_bl_non, ↓m_qEq_bl_bl, ↓m_qNe_bl_bl, ↓m_qEq_bl_str, ↓m_qNe_bl_str, ↓m_qEq_str_non, ↓m_qNe_str_non, ↓m_qEq_str_int, ↓m_qNe_str_int, ↓m_qEq_str_bl, ↓m_qNe_str_bl, ↓m_qEq_str_str, ↓m_qNe_str_str, ↓m_kInts, ↓m_kInts_nil, ↓m_kInts_1, ↓m_kInts_2, ↓m_kInts_3, ↓m_kSlN, ↓m_qSlL, ↓m_kSl3, ↓m_kSl2, ↓m_kSl1, ↓m_tSl, ↓m_tNoPart, ↓m_kPart, ↓m_tPart, ↓m_tDNewK, ↓m_kD2, ↓m_kD1, ↓m_tDisp, ↓m_kQT, ↓m_kQL, ↓m_qTup, ↓m_qLst, ↓m_kN, ↓m_nList, ↓m_kNT_l, ↓m_kNT_t, ↓m_nTuple, ↓m_kNC2, ↓m_kNC1, ↓m_nCat, ↓m_kNS, ↓m_nSl, ↓m_nDNew, ↓m_qGL, ↓m_tCallKX, ↓m_kCK0, ↓m_kCK1, ↓m_gK1, ↓m_gK2, ↓m_kRvJ, ↓m_kRvI, ↓m_iRev, ↓m_kSumI, ↓m_qSum, ↓m_kBls, ↓m_kAllB, ↓m_qAll, ↓m_kZ2_l, ↓m_kZ2_t, ↓m_kZ1_l, ↓m_kZ1_t, ↓m_kZ0, ↓m_iZip, ↓m_kCm2, ↓m_kCm_1, ↓m_kCm_2, ↓m_rep_1, ↓m_rep_2, ↓m_rep_3, ↓m_kCm_3, ↓m_kFldV, ↓m_kFldO, ↓m_kFld, ↓m_nFld, ↓m_kSetO, ↓m_kSet1, ↓m_kSet0, ↓m_nSetF, ↓m_kMethA_0, ↓m_kMethA_1, ↓m_kMethA_2, ↓m_kMethA_3, ↓m_kMethO, ↓m_kMeth, ↓m_nMeth, ↓m_kMade, ↓m_kMake_0, ↓m_kMake_1, ↓m_kMake_2, ↓m_kMake_3, ↓m_nMake, ↓m_tXI, ↓m_xSetF, ↓m_kXS0, ↓m_tRaiseI, ↓m_tXF, ↓m_kCT1, ↓m_nCatT, optK_some, itemsAt, lstAt, tupAt, seqO_lst, seqO_tup, seqO_frz, lstO_lst, tupO_tup, bind_some', upd_same, upd_upd, upd_old, tyO_lst, tyO_tup, tyO_dK, tyN_non, tyN_bl, tyN_int, tyN_str, tyN_ref, tyV_list, isW_int', isW_bl', isW_non', isW_str', isW_ref', cx_K, ofString_inj, refC_ref, clsV_ref, clsV_ty, atI_0, atI_1, atI_2, atI_3, atI_4, atI_5, atI_6, atI_7, atI_8, atI_9, atI_10, atI_11, eqv_int, eqv_bool, eqv_str, eqv_none, eqv_tuple, eqv_list, eqvAll_nil, eqvAll_cons, eqvAll_l, eqvAll_r, eqvAll_ints, allSome_ints, SqL_upd, CDiv_eq, CMul_l, CMul_r, CPow_10, CPow_2, Option.isSome_some, Option.isSome_none, Option.map_some, List.length_cons, List.length_nil, List.length_map, List.map_cons, List.map_nil, and_true, true_and, and_self, implies_true, reduceCtorEq, decide_true, decide_false, Bool.not_true, Bool.not_false, if_true, if_false, decide_eq_true_eq, Bool.false_eq_true, Bool.not_eq_true', decide_eq_false_iff_not, Bool.and_true, Bool.true_and, Bool.and_self, Bool.and_eq_true, Int.reduceToNat, Int.reducePow, Int.reduceMul, Int.reduceAdd, Int.reduceSub, Int.reduceNeg, Int.reduceLT, Int.reduceLE, Int.reduceEq, Int.reduceNe, Int.reduceDiv, Int.reduceMod, Nat.reduceAdd, Nat.reduceLeDiff, Nat.reduceLT, Nat.reduceMul, Nat.reducePow, gt_iff_lt, ge_iff_le, ne_eq, false_implies, true_implies, eq_self, String.reduceEq, Int.cast_ofNat_Int, not_true_eq_false, not_false_eq_true, false_and, and_false, List.cons_append, List.nil_append, List.append_nil, lenLe, lenLt, ↓exO_non, ↓exO_int, ↓exO_o, $ys,*, *])

section
variable {P : Program} {w : World} {K : PySem.W.Frag} {mg : Str → Option Value} {base : Heap} {t : Adr}
def spDraw (K : PySem.W.Frag) (a : Addr) (ns : List Int) : Sp := fun vs H Q E => ∃ (k : Int) (m : Int), vs = [.ref a, .int k, .int m] ∧ (SqL K H a (ns.map V.int) ∧ ns.length ≤ 63 ∧ (0 ≤ k ∧ k < 1000) ∧ 0 < m ∧ ∀ z : Int, 0 ≤ z → z < m → Q (.int z) H)
theorem c_spDraw (K : PySem.W.Frag) (a : Addr) (ns : List Int) (k : Int) (m : Int) (H : Hp) (Q : VK) (E : XK) : spDraw K a ns [.ref a, .int k, .int m] H Q E = (SqL K H a (ns.map V.int) ∧ ns.length ≤ 63 ∧ (0 ≤ k ∧ k < 1000) ∧ 0 < m ∧ ∀ z : Int, 0 ≤ z → z < m → Q (.int z) H) := propext ⟨(fun ⟨_, _, e, q⟩ => by cases e; exact q), fun q => ⟨_, _, rfl, q⟩⟩
theorem l_spDraw (K : PySem.W.Frag) (a : Addr) (ns : List Int) {vs : List V} {H : Hp} {Q : VK} {E : XK} (h : spDraw K a ns vs H Q E) : vs.length = 3 := by
  obtain ⟨_, _, rfl, _⟩ := h
  rfl
theorem ok__law_draw (T : Tx K mg t) (a : Addr) (ns : List Int) : FnOk P w K mg base CX0 1 t.a__law_draw t.d__law_draw ["_law_script", "_law_k", "_law_many"] (spDraw K a ns) := by
  refine T.F__law_draw.ok c__law_draw (fun vs H Q E h => l_spDraw _ _ _ h) (fun cdv A outer s H vs Q E hr h => ?_)
  · obtain ⟨k, m, rfl, hS, hl, ⟨hk0, hk1⟩, hm, kk⟩ := h
    have fin : ∀ z : Int, Q (.int (z % m)) H := fun z => kk _ (Int.emod_nonneg _ (by omega)) (Int.emod_lt_of_pos _ hm)
    refine ⟨_, (pss_cons (ps_if (pt_cmpR op_lt (pv 1) (pe_callB (id := "len") call_len_seq (by rfl) T.z_len (by decide +kernel) (pa_c (pv 0) pa_nil)) (nomark _))
      (pss_one (ps_ret (pe_op op_mod (pe_ix ix_list (pv 0) (pv 1) (fun _ _ => rfl)) (pv 2))))
      pss_nil)
    (pss_cons (ps_set (i := 3) c__law_draw.nd rfl (Or.inl rfl) (pe_op op_add (pe_op op_mul (pe_op op_mul (pv 1) (pv 1)) pe_int) pe_int))
    (pss_cons (ps_if (pt_cmpR op_gt (pe_callB (id := "len") call_len_seq (by rfl) T.z_len (by decide +kernel) (pa_c (pv 0) pa_nil)) pe_int (nomark _))
      (pss_cons (ps_set (i := 3) c__law_draw.nd rfl (Or.inl rfl) (pe_op op_mod (pe_ix ix_list (pv 0) (pe_op op_mod (pv 1) (pe_callB (id := "len") call_len_seq (by rfl) T.z_len (by decide +kernel) (pa_c (pv 0) pa_nil))) (fun _ _ => rfl)) pe_int))
      (pss_one (ps_set (i := 3) c__law_draw.nd rfl (Or.inl rfl) (pe_op op_add (pe_op op_mul (pv 3) (pe_op op_add pe_int (pe_op op_mul (pe_op op_mul pe_int (pv 1)) (pv 1)))) (pe_op op_mul (pv 1) pe_int)))))
      pss_nil)
    (pss_one (ps_ret (pe_op op_mod (pe_op op_mod (pe_op op_mul (pe_op op_mod (pv 3) pe_int) pe_int) pe_int) (pv 2))))))), ?_⟩
    refine ⟨_, rfl, _, rfl, a, _, rfl, .inl hS, _, _, rfl, rfl, _, rfl, ?_⟩
    refine ite2 (fun h => ?_) (fun h => ?_)
    · have h1 : k < (ns.length : Int) := by simpa using h
      obtain ⟨z, hz, _⟩ := atI_ints ns k hk0 h1
      exact ⟨_, rfl, _, rfl, a, _, k, _, rfl, rfl, hS, hz, _, rfl, _, _, rfl, rfl, hm, fin _⟩
    · refine ⟨_, rfl, _, rfl, _, _, rfl, rfl, .inl ⟨by omega, by omega⟩, _, _, rfl, rfl, .inr ⟨by decide, by decide⟩, _, _, rfl, rfl, ?_⟩
      refine ⟨_, rfl, a, _, rfl, .inl hS, _, _, rfl, rfl, _, rfl, ?_⟩
      refine ite2 (fun h2 => ?_) (fun h2 => ?_)
      · have h3 : 0 < (ns.length : Int) := by simpa using h2
        have h4 : (0 : Int) < ((ns.map V.int).length : Int) := by simpa using h3
        obtain ⟨z, hz, _⟩ := atI_ints ns (k % ((ns.map V.int).length : Int)) (Int.emod_nonneg _ (by omega)) (by have := Int.emod_lt_of_pos k h4; simpa using this)
        refine ⟨_, rfl, _, rfl, _, rfl, a, _, rfl, .inl hS, _, _, rfl, rfl, h4, a, _, _, _, rfl, rfl, hS, hz, _, _, rfl, rfl, (by first | decide | (show (0 : Int) < _; decide)), ?_⟩
        refine ⟨_, rfl, _, rfl, _, _, rfl, rfl, .inl ⟨by decide, by decide⟩, _, rfl, _, _, rfl, rfl, .inr ⟨by omega, by omega⟩, _, _, rfl, rfl, _, _, rfl, rfl, ?_, ?_⟩
        · refine .inl ⟨?_, ?_⟩
          · have := Int.emod_nonneg z (show (999999937 : Int) ≠ 0 by decide); omega
          · have := Int.emod_lt_of_pos z (show (0 : Int) < 999999937 by decide); omega
        refine ⟨_, rfl, _, _, rfl, rfl, .inr ⟨by decide, by decide⟩, _, _, rfl, rfl, ?_⟩
        exact ⟨_, rfl, _, _, rfl, rfl, (by first | decide | (show (0 : Int) < _; decide)), _, _, rfl, rfl, .inr ⟨by decide, by decide⟩, _, _, rfl, rfl, (by first | decide | (show (0 : Int) < _; decide)), _, rfl, _, _, rfl, rfl, hm, fin _⟩
      · exact ⟨_, rfl, _, _, rfl, rfl, (by first | decide | (show (0 : Int) < _; decide)), _, _, rfl, rfl, .inr ⟨by decide, by decide⟩, _, _, rfl, rfl, (by first | decide | (show (0 : Int) < _; decide)), _, rfl, _, _, rfl, rfl, hm, fin _⟩

def spWhole  : Sp := fun vs H Q E => ∃ (x : V), vs = [x] ∧ (optK (isW H x) (kE4 H Q))
theorem c_spWhole  (x : V) (H : Hp) (Q : VK) (E : XK) : spWhole  [x] H Q E = (optK (isW H x) (kE4 H Q)) := propext ⟨(fun ⟨_, e, q⟩ => by cases e; exact q), fun q => ⟨_, rfl, q⟩⟩
theorem l_spWhole  {vs : List V} {H : Hp} {Q : VK} {E : XK} (h : spWhole  vs H Q E) : vs.length = 1 := by
  obtain ⟨_, rfl, _⟩ := h
  rfl
theorem ok__law_whole (T : Tx K mg t) : FnOk P w K mg base CX0 1 t.a__law_whole t.d__law_whole ["_law_found"] spWhole := by
  refine T.F__law_whole.ok c__law_whole (fun vs H Q E h => l_spWhole h) (fun cdv A outer s H vs Q E hr h => ?_)
  · obtain ⟨x, rfl, h⟩ := h
    obtain ⟨b, hb, k⟩ := optK_ex h
    clear h
    rw [m_kE4] at k
    refine ⟨_, (@pss_one _ _ _ (@ps_ret _ _ _ _ (@pe_and _ _ _ _ _ _ _ (@pe_callB _ _ _ _ _ _ _ ("isinstance") _ call_qIsi (by rfl) T.z_isinstance (by decide +kernel) (@pa_c _ _ _ _ _ (@pv _ 0 _ _ (by rfl) (by first | exact Or.inl rfl | exact Or.inr (Or.inl rfl) | exact Or.inr (Or.inr rfl)) (by decide) (by decide)) (@pa_c _ _ _ _ _ (@pe_bltn _ _ (.ty "int") (.type "int") _ (by rfl) T.z_int (by decide +kernel) rfl (by decide) (by decide)) (@pa_nil _) (by rfl)) (by rfl)) (by decide) (by decide) (by rfl) (by rfl)) (@pe_one _ _ _ _ _ (@pe_not _ _ _ _ (@pe_callB _ _ _ _ _ _ _ ("isinstance") _ call_qIsi (by rfl) T.z_isinstance (by decide +kernel) (@pa_c _ _ _ _ _ (@pv _ 0 _ _ (by rfl) (by first | exact Or.inl rfl | exact Or.inr (Or.inl rfl) | exact Or.inr (Or.inr rfl)) (by decide) (by decide)) (@pa_c _ _ _ _ _ (@pe_bltn _ _ (.ty "bool") (.type "bool") _ (by rfl) T.z_bool (by decide +kernel) rfl (by decide) (by decide)) (@pa_nil _) (by rfl)) (by rfl)) (by decide) (by decide) (by rfl) (by rfl))))))), ?_⟩
    rw [show start ["_law_found"] [x] = [some (x)] from rfl]
    cases x with
    | int i => cases hb; simp_all only [and_true]
    | bl i => cases hb; simp_all only [and_true]
    | non => cases hb; simp_all only [and_true]
    | str i => cases hb; simp_all only [and_true]
    | ref p =>
      obtain ⟨rfl, o, ho, ht⟩ := isW_obj hb
      rcases ht with ht | ht | ht <;> simp_all only [and_true]
    | _ => cases hb

def kSz (F : List Int → Prop) : List Int → Prop := fun ns => Sizes ns ∧ F ns
theorem m_kSz (F : List Int → Prop) (ns : List Int) : kSz F ns = (Sizes ns ∧ F ns) := rfl
def kCnt (H : Hp) (Q : VK) : List Int → Prop := fun ns => Q (.int (prodL ns)) H
theorem x_kCnt (H : Hp) (Q : VK) (ns : List Int) : kCnt H Q ns = Q (.int (prodL ns)) H := rfl
def spCount  : Sp := fun vs H Q E => ∃ (p : Addr), vs = [.ref p] ∧ (optK (lstAt H p) (kInts (kSz (kCnt H Q))))
theorem c_spCount  (p : Addr) (H : Hp) (Q : VK) (E : XK) : spCount  [.ref p] H Q E = (optK (lstAt H p) (kInts (kSz (kCnt H Q)))) := propext ⟨(fun ⟨_, e, q⟩ => by cases e; exact q), fun q => ⟨_, rfl, q⟩⟩
theorem l_spCount  {vs : List V} {H : Hp} {Q : VK} {E : XK} (h : spCount  vs H Q E) : vs.length = 1 := by
  obtain ⟨_, rfl, _⟩ := h
  rfl
theorem ok_count_of (T : Tx K mg t) : FnOk P w K mg base CX0 1 t.a_count_of t.d_count_of ["sizes"] spCount := by
  refine T.F_count_of.ok c_count_of (fun vs H Q E h => l_spCount h) (fun cdv A outer s H vs Q E hr h => ?_)
  · obtain ⟨p, rfl, h⟩ := h
    obtain ⟨xs, hp, ns, rfl, hs, k⟩ := optK_ex h
    replace hp := lst_of hp
    rw [x_kCnt] at k
    refine ⟨_, (@pss_cons _ _ _ _ _ (@ps_set _ _ (1) _ _ _ _ c_count_of.nd rfl (Or.inl rfl) (@pe_int _ _ _ _) (by rfl) (by first | exact .inl rfl | exact .inr rfl | assumption)) (@pss_cons _ _ _ _ _ (@ps_for _ _ _ _ _ _ _ _ PassesOwn.never rfl (@pi_seq _ _ _ _ (@pv _ 0 _ _ (by rfl) (by first | exact Or.inl rfl | exact Or.inr (Or.inl rfl) | exact Or.inr (Or.inr rfl)) (by decide) (by decide))) (@pg_name _ _ (2) _ c_count_of.nd rfl (Or.inl rfl) (by first | exact .inl rfl | exact .inr rfl | assumption)) (@pss_one _ _ _ (@ps_set _ _ (1) _ _ _ _ c_count_of.nd rfl (Or.inl rfl) (@pe_op _ _ _ _ _ _ _ _ op_mulB (@pv _ 1 _ _ (by rfl) (by first | exact Or.inl rfl | exact Or.inr (Or.inl rfl) | exact Or.inr (Or.inr rfl)) (by decide) (by decide)) (@pv _ 2 _ _ (by rfl) (by first | exact Or.inl rfl | exact Or.inr (Or.inl rfl) | exact Or.inr (Or.inr rfl)) (by decide) (by decide))) (by rfl) (by first | exact .inl rfl | exact .inr rfl | assumption))) (by intros; rfl)) (@pss_one _ _ _ (@ps_ret _ _ _ _ (@pv _ 1 _ _ (by rfl) (by first | exact Or.inl rfl | exact Or.inr (Or.inl rfl) | exact Or.inr (Or.inr rfl)) (by decide) (by decide)))))), ?_⟩
    rw [show start ["sizes", "count", "size"] [.ref p] = [some (.ref p), none, none] from rfl]
    simp_all only [and_true]
    refine for_lst (xs := ns.map V.int) (fun i σ H' => ∃ v : Option V, σ = [some (.ref p), some (.int (prodL (ns.take i))), v] ∧ H' = H) ⟨_, rfl, rfl⟩ (fun i σ H' _ ⟨_, _, e⟩ => by subst e; exact hp) ?_ ?_
    · rintro i x _ _ hi ⟨v, rfl, rfl⟩
      rw [List.getElem?_map] at hi
      obtain ⟨z, hz, rfl⟩ := Option.map_eq_some_iff.mp hi
      have e := prodL_take ns i z hz
      have b1 := (hs.take i).prod
      have b2 := hs.2 z (List.mem_of_getElem? hz)
      have c1 : (prodL (ns.take i)).natAbs < 2 ^ 256 := by
        generalize prodL (ns.take i) = y at b1
        have : (1000000000 : Int) ^ 8 < 2 ^ 256 := by decide
        omega
      have c2 : z.natAbs < 2 ^ 256 := by omega
      clear b1 b2
      simp_all only [↓m_kBody, CMulB_of]
      exact ⟨_, rfl⟩
    · rintro _ _ ⟨v, rfl, rfl⟩
      rw [List.length_map, List.take_length]
      simp_all only [and_true]

def kSpl (x : Int) (H : Hp) (Q : VK) : List Int → Prop := fun ns => ∀ (r : Addr) (H' : Hp), H r = none → Ext H H' → H' r = some (.tup ((splitL ns x).map V.int)) → Q (.ref r) H'
theorem x_kSpl (x : Int) (H : Hp) (Q : VK) (ns : List Int) : kSpl x H Q ns = ∀ (r : Addr) (H' : Hp), H r = none → Ext H H' → H' r = some (.tup ((splitL ns x).map V.int)) → Q (.ref r) H' := rfl
def spSplit  : Sp := fun vs H Q E => ∃ (p : Addr) (x : Int), vs = [.ref p, .int x] ∧ (optK (lstAt H p) (kInts (kSz (kSpl x H Q))))
theorem c_spSplit  (p : Addr) (x : Int) (H : Hp) (Q : VK) (E : XK) : spSplit  [.ref p, .int x] H Q E = (optK (lstAt H p) (kInts (kSz (kSpl x H Q)))) := propext ⟨(fun ⟨_, _, e, q⟩ => by cases e; exact q), fun q => ⟨_, _, rfl, q⟩⟩
theorem l_spSplit  {vs : List V} {H : Hp} {Q : VK} {E : XK} (h : spSplit  vs H Q E) : vs.length = 2 := by
  obtain ⟨_, _, rfl, _⟩ := h
  rfl
theorem ok_split_number (T : Tx K mg t) : FnOk P w K mg base CX0 1 t.a_split_number t.d_split_number ["sizes", "number"] spSplit := by
  refine T.F_split_number.ok c_split_number (fun vs H Q E h => l_spSplit h) (fun cdv A outer s H vs Q E hr h => ?_)
  · obtain ⟨p, x, rfl, h⟩ := h
    obtain ⟨xs, hp, ns, rfl, hs, k⟩ := optK_ex h
    replace hp := lst_of hp
    rw [x_kSpl] at k
    refine ⟨_, (@pss_cons _ _ _ _ _ (@ps_set _ _ (2) _ _ _ _ c_split_number.nd rfl (Or.inl rfl) (@pe_qLst _ _ _ _ (@pa_nil _)) (by rfl) (by first | exact .inl rfl | exact .inr rfl | assumption)) (@pss_cons _ _ _ _ _ (@ps_set _ _ (3) _ _ _ _ c_split_number.nd rfl (Or.inl rfl) (@pv _ 1 _ _ (by rfl) (by first | exact Or.inl rfl | exact Or.inr (Or.inl rfl) | exact Or.inr (Or.inr rfl)) (by decide) (by decide)) (by rfl) (by first | exact .inl rfl | exact .inr rfl | assumption)) (@pss_cons _ _ _ _ _ (@ps_for _ _ _ _ _ _ _ _ PassesOwn.never rfl (@pi_rev _ _ _ _ _ _ (by rfl) T.z_reversed (@pa_c _ _ _ _ _ (@pv _ 0 _ _ (by rfl) (by first | exact Or.inl rfl | exact Or.inr (Or.inl rfl) | exact Or.inr (Or.inr rfl)) (by decide) (by decide)) (@pa_nil _) (by rfl)) (by rfl)) (@pg_name _ _ (4) _ c_split_number.nd rfl (Or.inl rfl) (by first | exact .inl rfl | exact .inr rfl | assumption)) (@pss_cons _ _ _ _ _ (@ps_expr _ _ _ _ (@pe_bm _ _ _ _ _ _ _ _ _ _ _ _ PySem.F.plainAttrs_list PySem.F.slot_list_append PySem.F.type_list_append mt_append (@pv _ 2 _ _ (by rfl) (by first | exact Or.inl rfl | exact Or.inr (Or.inl rfl) | exact Or.inr (Or.inr rfl)) (by decide) (by decide)) (@pa_c _ _ _ _ _ (@pe_op _ _ _ _ _ _ _ _ op_mod (@pv _ 3 _ _ (by rfl) (by first | exact Or.inl rfl | exact Or.inr (Or.inl rfl) | exact Or.inr (Or.inr rfl)) (by decide) (by decide)) (@pv _ 4 _ _ (by rfl) (by first | exact Or.inl rfl | exact Or.inr (Or.inl rfl) | exact Or.inr (Or.inr rfl)) (by decide) (by decide))) (@pa_nil _) (by rfl)) (by rfl) (by rfl) (by rfl) (by rfl) (by rfl)) (by rfl)) (@pss_one _ _ _ (@ps_set _ _ (3) _ _ _ _ c_split_number.nd rfl (Or.inl rfl) (@pe_op _ _ _ _ _ _ _ _ op_fdiv (@pv _ 3 _ _ (by rfl) (by first | exact Or.inl rfl | exact Or.inr (Or.inl rfl) | exact Or.inr (Or.inr rfl)) (by decide) (by decide)) (@pv _ 4 _ _ (by rfl) (by first | exact Or.inl rfl | exact Or.inr (Or.inl rfl) | exact Or.inr (Or.inr rfl)) (by decide) (by decide))) (by rfl) (by first | exact .inl rfl | exact .inr rfl | assumption)))) (by intros; rfl)) (@pss_cons _ _ _ _ _ (@ps_expr _ _ _ _ (@pe_bm0 _ _ _ _ _ _ _ _ _ PySem.F.plainAttrs_list PySem.F.slot_list_reverse PySem.F.type_list_reverse mt_reverse (@pv _ 2 _ _ (by rfl) (by first | exact Or.inl rfl | exact Or.inr (Or.inl rfl) | exact Or.inr (Or.inr rfl)) (by decide) (by decide)) (by rfl) (by rfl)) (by rfl)) (@pss_one _ _ _ (@ps_ret _ _ _ _ (@pe_callTy _ _ _ _ _ _ _ _ _ call_nTuple (by rfl) T.z_tuple (by decide +kernel) (@pa_c _ _ _ _ _ (@pv _ 2 _ _ (by rfl) (by first | exact Or.inl rfl | exact Or.inr (Or.inl rfl) | exact Or.inr (Or.inr rfl)) (by decide) (by decide)) (@pa_nil _) (by rfl)) (by decide) (by decide) (by rfl) (by rfl)))))))), ?_⟩
    rw [show start ["sizes", "number", "place", "left", "size"] [.ref p, .int x] = [some (.ref p), some (.int x), none, none, none] from rfl]
    simp_all only [and_true]
    intro r H1 hr1 e1 h1
    have hrp : r ≠ p := fun z => by rw [z, hp] at hr1; cases hr1
    have hp1 := e1.at hp
    try simp_all only [and_true]
    refine for_rev (xs := ns.map V.int) (fun i σ H' => ∃ v : Option V, σ = [some (.ref p), some (.int x), some (.ref r), some (.int (x / prodL (ns.drop (ns.length - i)))), v] ∧ Ext H H' ∧ H' r = some (.lst ((splitL (ns.drop (ns.length - i)) x).reverse.map V.int))) ⟨none, by simp [prodL], e1, by simpa [splitL] using h1⟩ (fun i σ H' _ ⟨_, _, e, _⟩ => SqL.of (e.at hp)) ?_ ?_
    · rintro i y _ H2 hi hx ⟨v, rfl, e2, h2⟩
      rw [List.length_map] at hi hx
      rw [List.getElem?_map] at hx
      obtain ⟨z, hz, rfl⟩ := Option.map_eq_some_iff.mp hx
      have b1 := (hs.drop (ns.length - i)).prod
      have b2 := hs.2 z (List.mem_of_getElem? hz)
      have e := left_step ns x i z hi hz (by omega)
      have e' := splitL_step ns x i z hi hz
      have hln : ((splitL (ns.drop (ns.length - i)) x).reverse).length < sizeLine := by
        rw [List.length_reverse, splitL_len]
        exact of_eq_true (lenLt _ (by have := hs.1; simp; omega))
      have z0 : 0 < z := by omega
      have z1 : z < 1073741824 := by omega
      clear b1 b2
      simp_all only [↓m_kBody]
      exact ⟨_, rfl, e2.put hr1, by rw [List.map_append]; rfl⟩
    · rintro _ H2 ⟨v, rfl, e2, h2⟩
      rw [List.length_map, Nat.sub_self, List.drop_zero] at h2
      simp_all only [and_true]
      intro q H3 hq e3 h3
      exact k q H3 ((e2.put hr1).free hq) ((e2.put hr1).trans e3) (by rw [h3, ← List.map_reverse, List.reverse_reverse])


theorem ok_TooMany___init__ (T : Tx K mg t) : FnOk P w K mg base CX0 1 t.a_TooMany___init__ t.d_TooMany___init__ ["self", "number"] (spX1 t.a_TooMany "number") := by
  refine T.F_TooMany___init__.ok c_TooMany___init__ (fun vs H Q E h => l_spX1 _ _ h) (fun cdv A outer s H vs Q E hr h => ?_)
  · obtain ⟨e, x, rfl, he, k⟩ := h
    refine ⟨_, (@pss_cons _ _ _ _ _ (@ps_expr _ _ _ _ (@pe_xinit _ _ _ _ _ _ _ _ _ _ (by rfl) T.m_PaceError T.bi_PaceError (@pa_c _ _ _ _ _ (@pv _ 0 _ _ (by rfl) (by first | exact Or.inl rfl | exact Or.inr (Or.inl rfl) | exact Or.inr (Or.inr rfl)) (by decide) (by decide)) (@pa_c _ _ _ _ _ (@pv _ 1 _ _ (by rfl) (by first | exact Or.inl rfl | exact Or.inr (Or.inl rfl) | exact Or.inr (Or.inr rfl)) (by decide) (by decide)) (@pa_nil _) (by rfl)) (by rfl)) (by decide) (by rfl) (by rfl) (by rfl)) (by rfl)) (@pss_one _ _ _ (@ps_xset _ _ _ _ _ _ _ _ (@pv _ 0 _ _ (by rfl) (by first | exact Or.inl rfl | exact Or.inr (Or.inl rfl) | exact Or.inr (Or.inr rfl)) (by decide) (by decide)) (@pv _ 1 _ _ (by rfl) (by first | exact Or.inl rfl | exact Or.inr (Or.inl rfl) | exact Or.inr (Or.inr rfl)) (by decide) (by decide)) rfl))), ?_⟩
    rw [show start ["self", "number"] [.ref e, x] = [some (.ref e), some (x)] from rfl]
    simp_all (failIfUnchanged := false) only [and_true]
    refine ⟨e, _, _, _, [x], rfl, he, T.oi_TooMany, (show 1 ≤ sizeLine by decide), ?_⟩
    simp_all (failIfUnchanged := false) only [and_true]
    exact ⟨e, _, rfl, he, T.oi_TooMany.st, T.tk_TooMany_number, fun dx H' h1 h2 h3 h4 h5 => k dx H' h1 h2 h3 h4 h5⟩
def spLong (cT : Addr) : Sp := fun vs H Q E => ∃ (n : Int), vs = [.int n] ∧ ((n ≤ 4096 → Q .non H) ∧ (4096 < n → ∀ dx H', Ext H H' → H' dx = some (.xd [("number", .int n)]) → E (.ref cT) (some dx) H'))
theorem c_spLong (cT : Addr) (n : Int) (H : Hp) (Q : VK) (E : XK) : spLong cT [.int n] H Q E = ((n ≤ 4096 → Q .non H) ∧ (4096 < n → ∀ dx H', Ext H H' → H' dx = some (.xd [("number", .int n)]) → E (.ref cT) (some dx) H')) := propext ⟨(fun ⟨_, e, q⟩ => by cases e; exact q), fun q => ⟨_, rfl, q⟩⟩
theorem l_spLong (cT : Addr) {vs : List V} {H : Hp} {Q : VK} {E : XK} (h : spLong cT vs H Q E) : vs.length = 1 := by
  obtain ⟨_, rfl, _⟩ := h
  rfl
theorem ok_refuse_long (T : Tx K mg t) : FnOk P w K mg base (CX1 P w) 3 t.a_refuse_long t.d_refuse_long ["count"] (spLong t.a_TooMany) := by
  have G_TooMany___init__ := ok_TooMany___init__ (P := P) (w := w) (base := base) T
  refine T.F_refuse_long.ok c_refuse_long (fun vs H Q E h => l_spLong _ h) (fun cdv A outer s H vs Q E hr h => ?_)
  · obtain ⟨n, rfl, k1, k2⟩ := h
    refine ⟨_, (@pss_one _ _ _ (@ps_if _ _ _ _ _ _ _ _ (@pt_cmpR _ _ _ _ _ _ _ _ op_gt (@pv _ 0 _ _ (by rfl) (by first | exact Or.inl rfl | exact Or.inr (Or.inl rfl) | exact Or.inr (Or.inr rfl)) (by decide) (by decide)) (@pe_glob _ _ (.int 4096) _ _ (by rfl) T.m_MOST_TOLD.choose_spec ⟨_, rfl⟩ (by decide)) (nomark _)) (@pss_one _ _ _ (@ps_raiseI _ _ _ _ _ _ _ _ _ _ _ _ _ _ _ rfl (by rfl) T.m_TooMany T.oi_TooMany G_TooMany___init__ (hr.mono (by decide)) T.b_TooMany___init__ (fun σ => raisesD_def) (@pa_c _ _ _ _ _ (@pv _ 0 _ _ (by rfl) (by first | exact Or.inl rfl | exact Or.inr (Or.inl rfl) | exact Or.inr (Or.inr rfl)) (by decide) (by decide)) (@pa_nil _) (by rfl)) (by rfl) (by rfl) (by decide))) (@pss_nil _))), ?_⟩
    rw [show start ["count"] [.int n] = [some (.int n)] from rfl]
    by_cases hn : 4096 < n
    · have k2' := k2 hn
      clear k1 k2
      simp_all (failIfUnchanged := false) only [and_true]
      exact kRI_x1 k2'
    · have k1' := k1 (by omega)
      clear k1 k2
      simp_all (failIfUnchanged := false) only [and_true]

def kAllP (cT : Addr) (H : Hp) (Q : VK) (E : XK) : List Int → Prop := fun ns => (prodL ns ≤ 4096 → ∀ D H', H D = none → Ext H H' → TupsAt H' D (rowsL ns) → Q (.ref D) H') ∧ (4096 < prodL ns → ∀ dx H', Ext H H' → H' dx = some (.xd [("number", .int (prodL ns))]) → E (.ref cT) (some dx) H')
theorem x_kAllP (cT : Addr) (H : Hp) (Q : VK) (E : XK) (ns : List Int) : kAllP cT H Q E ns = ((prodL ns ≤ 4096 → ∀ D H', H D = none → Ext H H' → TupsAt H' D (rowsL ns) → Q (.ref D) H') ∧ (4096 < prodL ns → ∀ dx H', Ext H H' → H' dx = some (.xd [("number", .int (prodL ns))]) → E (.ref cT) (some dx) H')) := rfl
def spPlaces (cT : Addr) : Sp := fun vs H Q E => ∃ (p : Addr), vs = [.ref p] ∧ (optK (lstAt H p) (kInts (kSz (kAllP cT H Q E))))
theorem c_spPlaces (cT : Addr) (p : Addr) (H : Hp) (Q : VK) (E : XK) : spPlaces cT [.ref p] H Q E = (optK (lstAt H p) (kInts (kSz (kAllP cT H Q E)))) := propext ⟨(fun ⟨_, e, q⟩ => by cases e; exact q), fun q => ⟨_, rfl, q⟩⟩
theorem l_spPlaces (cT : Addr) {vs : List V} {H : Hp} {Q : VK} {E : XK} (h : spPlaces cT vs H Q E) : vs.length = 1 := by
  obtain ⟨_, rfl, _⟩ := h
  rfl
theorem ok_places (T : Tx K mg t) : FnOk P w K mg base (CX1 P w) 4 t.a_places t.d_places ["sizes"] (spPlaces t.a_TooMany) := by
  have G_count_of := ok_count_of (P := P) (w := w) (base := base) T
  have G_refuse_long := ok_refuse_long (P := P) (w := w) (base := base) T
  have G_split_number := ok_split_number (P := P) (w := w) (base := base) T
  refine T.F_places.ok c_places (fun vs H Q E h => l_spPlaces _ h) (fun cdv A outer s H vs Q E hr h => ?_)
  · obtain ⟨p, rfl, h⟩ := h
    obtain ⟨xs, hp, ns, rfl, hs, k1, k2⟩ := optK_ex h
    replace hp := lst_of hp
    clear h
    refine ⟨_, (@pss_cons _ _ _ _ _ (@ps_set _ _ (1) _ _ _ _ c_places.nd rfl (Or.inl rfl) (@pe_call _ _ _ _ _ _ _ _ _ _ _ _ _ _ _ _ G_count_of (hr.mono (by decide)) (by rfl) T.m_count_of T.F_count_of.kp T.b_count_of .nil pass0 (@pa_c _ _ _ _ _ (@pv _ 0 _ _ (by rfl) (by first | exact Or.inl rfl | exact Or.inr (Or.inl rfl) | exact Or.inr (Or.inr rfl)) (by decide) (by decide)) (@pa_nil _) (by rfl)) (by decide) (by rfl) (by rfl)) (by rfl) (by first | exact .inl rfl | exact .inr rfl | assumption)) (@pss_cons _ _ _ _ _ (@ps_expr _ _ _ _ (@pe_call _ _ _ _ _ _ _ _ _ _ _ _ _ _ _ _ G_refuse_long (hr.mono (by decide)) (by rfl) T.m_refuse_long T.F_refuse_long.kp T.b_refuse_long .nil passes_def (@pa_c _ _ _ _ _ (@pv _ 1 _ _ (by rfl) (by first | exact Or.inl rfl | exact Or.inr (Or.inl rfl) | exact Or.inr (Or.inr rfl)) (by decide) (by decide)) (@pa_nil _) (by rfl)) (by decide) (by rfl) (by rfl)) (by rfl)) (@pss_one _ _ _ (@ps_ret _ _ _ _ (@pe_comp _ _ _ _ _ _ _ _ _ _ _ (["number", "sizes", "count"]) (1) (comp_ok (defScope s_places) ["sizes", "count"] rfl rfl (by decide +kernel)) rfl (@pi_range1 _ _ _ _ _ _ (by rfl) T.z_range (@pa_c _ _ _ _ _ (@pv _ 1 _ _ (by rfl) (by first | exact Or.inl rfl | exact Or.inr (Or.inl rfl) | exact Or.inr (Or.inr rfl)) (by decide) (by decide)) (@pa_nil _) (by rfl)) (by rfl)) (fun C s₀ H₀ ex pn => (@pg_name _ _ (0) _ (show List.Nodup (["number", "sizes", "count"] : List Str) from by decide +kernel) rfl (Or.inl rfl) (by first | exact .inl rfl | exact .inr rfl | assumption))) (fun C s₀ H₀ ex pn => (@pts_nil _)) (fun C s₀ H₀ ex pn => (@pe_call _ _ _ _ _ _ _ _ _ _ _ _ _ _ _ _ G_split_number (hr.mono (by decide)) (by rfl) T.m_split_number T.F_split_number.kp T.b_split_number .nil pass0 (@pa_c _ _ _ _ _ (@pv _ 1 _ _ (by rfl) (by first | exact Or.inl rfl | exact Or.inr (Or.inl rfl) | exact Or.inr (Or.inr rfl)) (by decide) (by decide)) (@pa_c _ _ _ _ _ (@pv _ 0 _ _ (by rfl) (by first | exact Or.inl rfl | exact Or.inr (Or.inl rfl) | exact Or.inr (Or.inr rfl)) (by decide) (by decide)) (@pa_nil _) (by rfl)) (by rfl)) (by decide) (by rfl) (by rfl))) (by intros; rfl)))))), ?_⟩
    rw [show start ["sizes", "count"] [.ref p] = [some (.ref p), none] from rfl]
    have hpos := hs.prod.1
    simp_all (failIfUnchanged := false) only [↓c_spCount, ↓m_kSz, ↓x_kCnt]
    rw [c_spLong]
    refine ⟨fun hn => ?_, fun hn dx H' e h' => k2 hn dx H' e h'⟩
    have k1' := k1 hn
    clear k1 k2
    have hr2 : prodL ns < 2 ^ 62 := by omega
    have hr1 : -(2 ^ 62) ≤ prodL ns := by omega
    simp_all (failIfUnchanged := false) only [and_true]
    refine ⟨hr1, hr2, ?_⟩
    refine comp_rel (List.range (prodL ns).toNat) (fun _ => true) (fun j x H' => x = .int (0 + (j : Nat))) (fun D j y H' => ∃ q, y = .ref q ∧ q ≠ D ∧ H' q = some (.tup ((splitL ns (j : Nat)).map V.int))) wk_rng.1 wk_rng.2 (fun D _ y H1 H2 ⟨q, h1, h2, h3⟩ e => ⟨q, h1, h2, e.at h3⟩) (fun D _ y H1 o ⟨q, h1, h2, h3⟩ => ⟨q, h1, h2, by rw [upd_ne h2]; exact h3⟩) (len5000 (by rw [List.length_range]; omega)) ?_ ?_
    · intro D j x H' N1 N0 hz hD e ⟨ys0, hys0⟩ hx kk _
      subst hx
      have hp' := e.at hp
      have kk' := kk rfl
      clear kk
      simp_all (failIfUnchanged := false) only [↓m_kCm_1, ↓m_kCm2, ↓c_spSplit, ↓m_kSz]
      rw [x_kSpl]
      intro r H2 hr2 e2 h2
      rw [Int.zero_add] at h2
      exact kk' _ H2 e2 ⟨r, rfl, (fun z => by rw [z, hys0] at hr2; cases hr2), h2⟩
    · intro D ys H' hD e hD' al
      rw [filt] at al
      refine k1' D H' hD e ⟨ys, hD', ?_, fun i z y hz hy => ?_⟩
      · rw [al.1, List.length_range, rowsL_len]
      · unfold rowsL at hz
        rw [List.getElem?_map] at hz
        obtain ⟨j, hj, rfl⟩ := Option.map_eq_some_iff.mp hz
        obtain ⟨q, h1, _, h3⟩ := al.2 i j y hj hy
        exact ⟨q, h1, h3⟩


def spGreat (K : PySem.W.Frag) (a : Addr) (ns : List Int) : Sp := fun vs H Q E => ∃ (wy : Int), vs = [.ref a, .int wy] ∧ (SqL K H a (ns.map V.int) ∧ ns.length ≤ 63 ∧ ∀ (ms : List Int) (r : Addr) (H' : Hp), Ext H H' → H' r = some (.lst (ms.map V.int)) → Sizes ms → Q (.ref r) H')
theorem c_spGreat (K : PySem.W.Frag) (a : Addr) (ns : List Int) (wy : Int) (H : Hp) (Q : VK) (E : XK) : spGreat K a ns [.ref a, .int wy] H Q E = (SqL K H a (ns.map V.int) ∧ ns.length ≤ 63 ∧ ∀ (ms : List Int) (r : Addr) (H' : Hp), Ext H H' → H' r = some (.lst (ms.map V.int)) → Sizes ms → Q (.ref r) H') := propext ⟨(fun ⟨_, e, q⟩ => by cases e; exact q), fun q => ⟨_, rfl, q⟩⟩
theorem l_spGreat (K : PySem.W.Frag) (a : Addr) (ns : List Int) {vs : List V} {H : Hp} {Q : VK} {E : XK} (h : spGreat K a ns vs H Q E) : vs.length = 2 := by
  obtain ⟨_, rfl, _⟩ := h
  rfl
theorem ok__law_great (T : Tx K mg t) (a : Addr) (ns : List Int) : FnOk P w K mg base CX0 2 t.a__law_great t.d__law_great ["_law_script", "_law_way"] (spGreat K a ns) := by
  have G__law_draw := ok__law_draw (P := P) (w := w) (base := base) T a ns
  refine T.F__law_great.ok c__law_great (fun vs H Q E h => l_spGreat _ _ _ h) (fun cdv A outer s H vs Q E hr h => ?_)
  · obtain ⟨wy, rfl, hS, hl, kk⟩ := h
    refine ⟨_, (@pss_cons _ _ _ _ _ (@ps_set _ _ (2) _ _ _ _ c__law_great.nd rfl (Or.inl rfl) (@pe_call _ _ _ _ _ _ _ _ _ _ _ _ _ _ _ _ G__law_draw (hr.mono (by decide)) (by rfl) T.m__law_draw T.F__law_draw.kp T.b__law_draw .nil pass0 (@pa_c _ _ _ _ _ (@pv _ 0 _ _ (by rfl) (by first | exact Or.inl rfl | exact Or.inr (Or.inl rfl) | exact Or.inr (Or.inr rfl)) (by decide) (by decide)) (@pa_c _ _ _ _ _ (@pe_int _ _ _ _) (@pa_c _ _ _ _ _ (@pe_op _ _ _ _ _ _ _ _ op_pow (@pe_int _ _ _ _) (@pe_int _ _ _ _)) (@pa_nil _) (by rfl)) (by rfl)) (by rfl)) (by decide) (by rfl) (by rfl)) (by rfl) (by first | exact .inl rfl | exact .inr rfl | assumption)) (@pss_cons _ _ _ _ _ (@ps_if _ _ _ _ _ _ _ _ (@pt_cmpR _ _ _ _ _ _ _ _ (op_qEq hr.units) (@pv _ 1 _ _ (by rfl) (by first | exact Or.inl rfl | exact Or.inr (Or.inl rfl) | exact Or.inr (Or.inr rfl)) (by decide) (by decide)) (@pe_int _ _ _ _) (nomark _)) (@pss_cons _ _ _ _ _ (@ps_set _ _ (3) _ _ _ _ c__law_great.nd rfl (Or.inl rfl) (@pe_qLst _ _ _ _ (@pa_c _ _ _ _ _ (@pe_qLst _ _ _ _ (@pa_c _ _ _ _ _ (@pe_int _ _ _ _) (@pa_nil _) (by rfl))) (@pa_c _ _ _ _ _ (@pe_qLst _ _ _ _ (@pa_c _ _ _ _ _ (@pe_int _ _ _ _) (@pa_c _ _ _ _ _ (@pe_int _ _ _ _) (@pa_nil _) (by rfl)) (by rfl))) (@pa_c _ _ _ _ _ (@pe_qLst _ _ _ _ (@pa_c _ _ _ _ _ (@pe_int _ _ _ _) (@pa_c _ _ _ _ _ (@pe_int _ _ _ _) (@pa_c _ _ _ _ _ (@pe_int _ _ _ _) (@pa_c _ _ _ _ _ (@pe_int _ _ _ _) (@pa_c _ _ _ _ _ (@pe_int _ _ _ _) (@pa_c _ _ _ _ _ (@pe_int _ _ _ _) (@pa_nil _) (by rfl)) (by rfl)) (by rfl)) (by rfl)) (by rfl)) (by rfl))) (@pa_c _ _ _ _ _ (@pe_qLst _ _ _ _ (@pa_c _ _ _ _ _ (@pe_int _ _ _ _) (@pa_c _ _ _ _ _ (@pe_int _ _ _ _) (@pa_c _ _ _ _ _ (@pe_int _ _ _ _) (@pa_c _ _ _ _ _ (@pe_int _ _ _ _) (@pa_c _ _ _ _ _ (@pe_int _ _ _ _) (@pa_nil _) (by rfl)) (by rfl)) (by rfl)) (by rfl)) (by rfl))) (@pa_c _ _ _ _ _ (@pe_qLst _ _ _ _ (@pa_c _ _ _ _ _ (@pe_int _ _ _ _) (@pa_c _ _ _ _ _ (@pe_int _ _ _ _) (@pa_nil _) (by rfl)) (by rfl))) (@pa_c _ _ _ _ _ (@pe_qLst _ _ _ _ (@pa_c _ _ _ _ _ (@pe_int _ _ _ _) (@pa_c _ _ _ _ _ (@pe_int _ _ _ _) (@pa_c _ _ _ _ _ (@pe_int _ _ _ _) (@pa_nil _) (by rfl)) (by rfl)) (by rfl))) (@pa_c _ _ _ _ _ (@pe_qLst _ _ _ _ (@pa_c _ _ _ _ _ (@pe_int _ _ _ _) (@pa_c _ _ _ _ _ (@pe_int _ _ _ _) (@pa_nil _) (by rfl)) (by rfl))) (@pa_c _ _ _ _ _ (@pe_qLst _ _ _ _ (@pa_c _ _ _ _ _ (@pe_int _ _ _ _) (@pa_c _ _ _ _ _ (@pe_int _ _ _ _) (@pa_nil _) (by rfl)) (by rfl))) (@pa_nil _) (by rfl)) (by rfl)) (by rfl)) (by rfl)) (by rfl)) (by rfl)) (by rfl)) (by rfl))) (by rfl) (by first | exact .inl rfl | exact .inr rfl | assumption)) (@pss_one _ _ _ (@ps_ret _ _ _ _ (@pe_ix _ _ _ _ _ _ _ ix_q (@pv _ 3 _ _ (by rfl) (by first | exact Or.inl rfl | exact Or.inr (Or.inl rfl) | exact Or.inr (Or.inr rfl)) (by decide) (by decide)) (@pe_op _ _ _ _ _ _ _ _ op_mod (@pv _ 2 _ _ (by rfl) (by first | exact Or.inl rfl | exact Or.inr (Or.inl rfl) | exact Or.inr (Or.inr rfl)) (by decide) (by decide)) (@pe_int _ _ _ _)) (fun _ _ => rfl))))) (@pss_nil _)) (@pss_cons _ _ _ _ _ (@ps_set _ _ (3) _ _ _ _ c__law_great.nd rfl (Or.inl rfl) (@pe_qLst _ _ _ _ (@pa_c _ _ _ _ _ (@pe_qLst _ _ _ _ (@pa_c _ _ _ _ _ (@pe_int _ _ _ _) (@pa_nil _) (by rfl))) (@pa_c _ _ _ _ _ (@pe_qLst _ _ _ _ (@pa_c _ _ _ _ _ (@pe_int _ _ _ _) (@pa_c _ _ _ _ _ (@pe_int _ _ _ _) (@pa_nil _) (by rfl)) (by rfl))) (@pa_c _ _ _ _ _ (@pe_qLst _ _ _ _ (@pa_c _ _ _ _ _ (@pe_int _ _ _ _) (@pa_c _ _ _ _ _ (@pe_int _ _ _ _) (@pa_c _ _ _ _ _ (@pe_int _ _ _ _) (@pa_nil _) (by rfl)) (by rfl)) (by rfl))) (@pa_c _ _ _ _ _ (@pe_qLst _ _ _ _ (@pa_c _ _ _ _ _ (@pe_op _ _ _ _ _ _ _ _ op_add (@pe_int _ _ _ _) (@pe_op _ _ _ _ _ _ _ _ op_mod (@pe_op _ _ _ _ _ _ _ _ op_fdiv (@pv _ 2 _ _ (by rfl) (by first | exact Or.inl rfl | exact Or.inr (Or.inl rfl) | exact Or.inr (Or.inr rfl)) (by decide) (by decide)) (@pe_int _ _ _ _)) (@pe_op _ _ _ _ _ _ _ _ op_sub (@pe_op _ _ _ _ _ _ _ _ op_pow (@pe_int _ _ _ _) (@pe_int _ _ _ _)) (@pe_int _ _ _ _)))) (@pa_nil _) (by rfl))) (@pa_c _ _ _ _ _ (@pe_qLst _ _ _ _ (@pa_c _ _ _ _ _ (@pe_int _ _ _ _) (@pa_c _ _ _ _ _ (@pe_op _ _ _ _ _ _ _ _ op_add (@pe_int _ _ _ _) (@pe_op _ _ _ _ _ _ _ _ op_mod (@pe_op _ _ _ _ _ _ _ _ op_fdiv (@pv _ 2 _ _ (by rfl) (by first | exact Or.inl rfl | exact Or.inr (Or.inl rfl) | exact Or.inr (Or.inr rfl)) (by decide) (by decide)) (@pe_int _ _ _ _)) (@pe_op _ _ _ _ _ _ _ _ op_pow (@pe_int _ _ _ _) (@pe_int _ _ _ _)))) (@pa_nil _) (by rfl)) (by rfl))) (@pa_nil _) (by rfl)) (by rfl)) (by rfl)) (by rfl)) (by rfl))) (by rfl) (by first | exact .inl rfl | exact .inr rfl | assumption)) (@pss_cons _ _ _ _ _ (@ps_set _ _ (3) _ _ _ _ c__law_great.nd rfl (Or.inl rfl) (@pe_op _ _ _ _ _ _ _ _ op_nCat (@pv _ 3 _ _ (by rfl) (by first | exact Or.inl rfl | exact Or.inr (Or.inl rfl) | exact Or.inr (Or.inr rfl)) (by decide) (by decide)) (@pe_qLst _ _ _ _ (@pa_c _ _ _ _ _ (@pe_qLst _ _ _ _ (@pa_c _ _ _ _ _ (@pe_op _ _ _ _ _ _ _ _ op_pow (@pe_int _ _ _ _) (@pe_int _ _ _ _)) (@pa_c _ _ _ _ _ (@pe_op _ _ _ _ _ _ _ _ op_pow (@pe_int _ _ _ _) (@pe_int _ _ _ _)) (@pa_c _ _ _ _ _ (@pe_op _ _ _ _ _ _ _ _ op_pow (@pe_int _ _ _ _) (@pe_int _ _ _ _)) (@pa_c _ _ _ _ _ (@pe_op _ _ _ _ _ _ _ _ op_pow (@pe_int _ _ _ _) (@pe_int _ _ _ _)) (@pa_c _ _ _ _ _ (@pe_op _ _ _ _ _ _ _ _ op_pow (@pe_int _ _ _ _) (@pe_int _ _ _ _)) (@pa_c _ _ _ _ _ (@pe_op _ _ _ _ _ _ _ _ op_pow (@pe_int _ _ _ _) (@pe_int _ _ _ _)) (@pa_c _ _ _ _ _ (@pe_op _ _ _ _ _ _ _ _ op_pow (@pe_int _ _ _ _) (@pe_int _ _ _ _)) (@pa_c _ _ _ _ _ (@pe_op _ _ _ _ _ _ _ _ op_pow (@pe_int _ _ _ _) (@pe_int _ _ _ _)) (@pa_nil _) (by rfl)) (by rfl)) (by rfl)) (by rfl)) (by rfl)) (by rfl)) (by rfl)) (by rfl))) (@pa_c _ _ _ _ _ (@pe_qLst _ _ _ _ (@pa_c _ _ _ _ _ (@pe_int _ _ _ _) (@pa_c _ _ _ _ _ (@pe_int _ _ _ _) (@pa_c _ _ _ _ _ (@pe_int _ _ _ _) (@pa_c _ _ _ _ _ (@pe_int _ _ _ _) (@pa_nil _) (by rfl)) (by rfl)) (by rfl)) (by rfl))) (@pa_c _ _ _ _ _ (@pe_qLst _ _ _ _ (@pa_c _ _ _ _ _ (@pe_int _ _ _ _) (@pa_c _ _ _ _ _ (@pe_int _ _ _ _) (@pa_nil _) (by rfl)) (by rfl))) (@pa_nil _) (by rfl)) (by rfl)) (by rfl)))) (by rfl) (by first | exact .inl rfl | exact .inr rfl | assumption)) (@pss_one _ _ _ (@ps_ret _ _ _ _ (@pe_ix _ _ _ _ _ _ _ ix_q (@pv _ 3 _ _ (by rfl) (by first | exact Or.inl rfl | exact Or.inr (Or.inl rfl) | exact Or.inr (Or.inr rfl)) (by decide) (by decide)) (@pe_op _ _ _ _ _ _ _ _ op_mod (@pv _ 2 _ _ (by rfl) (by first | exact Or.inl rfl | exact Or.inr (Or.inl rfl) | exact Or.inr (Or.inr rfl)) (by decide) (by decide)) (@pe_int _ _ _ _)) (fun _ _ => rfl)))))))), ?_⟩
    rw [show start ["_law_script", "_law_way", "_law_cell", "_law_some"] [.ref a, .int wy] = [some (.ref a), some (.int wy), none, none] from rfl]
    simp_all (failIfUnchanged := false) only [and_true]
    rw [c_spDraw]
    refine ⟨hS, hl, ⟨by decide, by decide⟩, by decide, fun z hz0 hz1 => ?_⟩
    have z8 : 0 ≤ z % 8 := Int.emod_nonneg _ (by decide)
    have z8' : z % 8 < 8 := Int.emod_lt_of_pos _ (by decide)
    by_cases hw : wy = 0
    · subst hw
      simp_all (failIfUnchanged := false) only [and_true]
      intro q1 H1 _ e1 h1
      simp_all (failIfUnchanged := false) only [and_true]
      intro q2 H2 _ e2 h2
      simp_all (failIfUnchanged := false) only [and_true]
      intro q3 H3 _ e3 h3
      simp_all (failIfUnchanged := false) only [and_true]
      intro q4 H4 _ e4 h4
      simp_all (failIfUnchanged := false) only [and_true]
      intro q5 H5 _ e5 h5
      simp_all (failIfUnchanged := false) only [and_true]
      intro q6 H6 _ e6 h6
      simp_all (failIfUnchanged := false) only [and_true]
      intro q7 H7 _ e7 h7
      simp_all (failIfUnchanged := false) only [and_true]
      intro q8 H8 _ e8 h8
      simp_all (failIfUnchanged := false) only [and_true]
      intro q9 H9 _ e9 h9
      have E78 := e8.trans e9
      have E67 := e7.trans E78
      have E56 := e6.trans E67
      have E45 := e5.trans E56
      have E34 := e4.trans E45
      have E23 := e3.trans E34
      have E12 := e2.trans E23
      have E0 := e1.trans E12
      simp_all (failIfUnchanged := false) only [and_true]
      refine optK_at z8 z8' fun v hv => ?_
      simp only [List.mem_cons, List.not_mem_nil, or_false] at hv
      rcases hv with rfl | rfl | rfl | rfl | rfl | rfl | rfl | rfl
      · exact kk [4096] q1 H9 E0 (E12.at h1) ⟨by decide, by decide⟩
      · exact kk [64, 64] q2 H9 E0 (E23.at h2) ⟨by decide, by decide⟩
      · exact kk [4, 4, 4, 4, 4, 4] q3 H9 E0 (E34.at h3) ⟨by decide, by decide⟩
      · exact kk [8, 1, 8, 8, 8] q4 H9 E0 (E45.at h4) ⟨by decide, by decide⟩
      · exact kk [1, 4096] q5 H9 E0 (E56.at h5) ⟨by decide, by decide⟩
      · exact kk [16, 256, 1] q6 H9 E0 (E67.at h6) ⟨by decide, by decide⟩
      · exact kk [2, 2048] q7 H9 E0 (E78.at h7) ⟨by decide, by decide⟩
      · exact kk [1024, 4] q8 H9 E0 (e9.at h8) ⟨by decide, by decide⟩
    · have u0 : 0 ≤ z / 8 % 999995903 := Int.emod_nonneg _ (by decide)
      have u1 : z / 8 % 999995903 < 999995903 := Int.emod_lt_of_pos _ (by decide)
      have w0 : 0 ≤ z / 8 % 1000000 := Int.emod_nonneg _ (by decide)
      have w1 : z / 8 % 1000000 < 1000000 := Int.emod_lt_of_pos _ (by decide)
      simp_all (failIfUnchanged := false) only [and_true]
      intro q1 H1 _ e1 h1
      simp_all (failIfUnchanged := false) only [and_true]
      intro q2 H2 _ e2 h2
      simp_all (failIfUnchanged := false) only [and_true]
      intro q3 H3 _ e3 h3
      simp_all (failIfUnchanged := false) only [and_true]
      intro q4 H4 _ e4 h4
      simp_all (failIfUnchanged := false) only [and_true]
      intro q5 H5 _ e5 h5
      simp_all (failIfUnchanged := false) only [and_true]
      intro q6 H6 _ e6 h6
      simp_all (failIfUnchanged := false) only [and_true]
      intro q7 H7 _ e7 h7
      simp_all (failIfUnchanged := false) only [and_true]
      intro q8 H8 _ e8 h8
      simp_all (failIfUnchanged := false) only [and_true]
      intro q9 H9 _ e9 h9
      simp_all (failIfUnchanged := false) only [and_true]
      intro q10 H10 _ e10 h10
      have h6' := e10.at (e9.at (e8.at (e7.at h6)))
      simp_all (failIfUnchanged := false) only [and_true]
      intro q11 H11 _ e11 h11
      have E910 := e10.trans e11
      have E89 := e9.trans E910
      have E78 := e8.trans E89
      have E67 := e7.trans E78
      have E56 := e6.trans E67
      have E45 := e5.trans E56
      have E34 := e4.trans E45
      have E23 := e3.trans E34
      have E12 := e2.trans E23
      have E0 := e1.trans E12
      simp_all (failIfUnchanged := false) only [and_true]
      refine optK_at z8 z8' fun v hv => ?_
      simp only [List.mem_cons, List.not_mem_nil, or_false] at hv
      rcases hv with rfl | rfl | rfl | rfl | rfl | rfl | rfl | rfl
      · exact kk [4097] q1 H11 E0 (E12.at h1) ⟨by decide, by decide⟩
      · exact kk [17, 241] q2 H11 E0 (E23.at h2) ⟨by decide, by decide⟩
      · exact kk [241, 17, 1] q3 H11 E0 (E34.at h3) ⟨by decide, by decide⟩
      · exact kk [4097 + z / 8 % 999995903] q4 H11 E0 (E45.at h4) ⟨(show 1 ≤ 8 by decide), fun n hn => by rw [List.mem_singleton.mp hn]; omega⟩
      · exact kk [2, 2049 + z / 8 % 1000000] q5 H11 E0 (E56.at h5) ⟨(show 2 ≤ 8 by decide), fun n hn => by
          simp only [List.mem_cons, List.not_mem_nil, or_false] at hn
          rcases hn with rfl | rfl <;> omega⟩
      · exact kk [1000000000, 1000000000, 1000000000, 1000000000, 1000000000, 1000000000, 1000000000, 1000000000] q7 H11 E0 (E78.at h7) ⟨by decide, by decide⟩
      · exact kk [5, 4, 3, 70] q8 H11 E0 (E89.at h8) ⟨by decide, by decide⟩
      · exact kk [64, 65] q9 H11 E0 (E910.at h9) ⟨by decide, by decide⟩
def spSizes (K : PySem.W.Frag) (a : Addr) (ns : List Int) : Sp := fun vs H Q E => ∃ (p : Addr), vs = [.ref p] ∧ (p = a ∧ SqL K H a (ns.map V.int) ∧ ns.length ≤ 63 ∧ ∀ (ms : List Int) (r : Addr) (H' : Hp), Ext H H' → H' r = some (.lst (ms.map V.int)) → Sizes ms → Q (.ref r) H')
theorem c_spSizes (K : PySem.W.Frag) (a : Addr) (ns : List Int) (p : Addr) (H : Hp) (Q : VK) (E : XK) : spSizes K a ns [.ref p] H Q E = (p = a ∧ SqL K H a (ns.map V.int) ∧ ns.length ≤ 63 ∧ ∀ (ms : List Int) (r : Addr) (H' : Hp), Ext H H' → H' r = some (.lst (ms.map V.int)) → Sizes ms → Q (.ref r) H') := propext ⟨(fun ⟨_, e, q⟩ => by cases e; exact q), fun q => ⟨_, rfl, q⟩⟩
theorem l_spSizes (K : PySem.W.Frag) (a : Addr) (ns : List Int) {vs : List V} {H : Hp} {Q : VK} {E : XK} (h : spSizes K a ns vs H Q E) : vs.length = 1 := by
  obtain ⟨_, rfl, _⟩ := h
  rfl
theorem ok__law_sizes (T : Tx K mg t) (a : Addr) (ns : List Int) : FnOk P w K mg base CX0 3 t.a__law_sizes t.d__law_sizes ["_law_script"] (spSizes K a ns) := by
  have G__law_draw := ok__law_draw (P := P) (w := w) (base := base) T a ns
  have G__law_great := ok__law_great (P := P) (w := w) (base := base) T a ns
  refine T.F__law_sizes.ok c__law_sizes (fun vs H Q E h => l_spSizes _ _ _ h) (fun cdv A outer s H vs Q E hr h => ?_)
  · obtain ⟨_, rfl, rfl, hS, hl, kk⟩ := h
    rename_i a
    refine ⟨_, (@pss_cons _ _ _ _ _ (@ps_set _ _ (1) _ _ _ _ c__law_sizes.nd rfl (Or.inl rfl) (@pe_call _ _ _ _ _ _ _ _ _ _ _ _ _ _ _ _ G__law_draw (hr.mono (by decide)) (by rfl) T.m__law_draw T.F__law_draw.kp T.b__law_draw .nil pass0 (@pa_c _ _ _ _ _ (@pv _ 0 _ _ (by rfl) (by first | exact Or.inl rfl | exact Or.inr (Or.inl rfl) | exact Or.inr (Or.inr rfl)) (by decide) (by decide)) (@pa_c _ _ _ _ _ (@pe_int _ _ _ _) (@pa_c _ _ _ _ _ (@pe_int _ _ _ _) (@pa_nil _) (by rfl)) (by rfl)) (by rfl)) (by decide) (by rfl) (by rfl)) (by rfl) (by first | exact .inl rfl | exact .inr rfl | assumption)) (@pss_cons _ _ _ _ _ (@ps_if _ _ _ _ _ _ _ _ (@pt_cmpR _ _ _ _ _ _ _ _ op_lt (@pv _ 1 _ _ (by rfl) (by first | exact Or.inl rfl | exact Or.inr (Or.inl rfl) | exact Or.inr (Or.inr rfl)) (by decide) (by decide)) (@pe_int _ _ _ _) (nomark _)) (@pss_one _ _ _ (@ps_ret _ _ _ _ (@pe_call _ _ _ _ _ _ _ _ _ _ _ _ _ _ _ _ G__law_great (hr.mono (by decide)) (by rfl) T.m__law_great T.F__law_great.kp T.b__law_great .nil pass0 (@pa_c _ _ _ _ _ (@pv _ 0 _ _ (by rfl) (by first | exact Or.inl rfl | exact Or.inr (Or.inl rfl) | exact Or.inr (Or.inr rfl)) (by decide) (by decide)) (@pa_c _ _ _ _ _ (@pv _ 1 _ _ (by rfl) (by first | exact Or.inl rfl | exact Or.inr (Or.inl rfl) | exact Or.inr (Or.inr rfl)) (by decide) (by decide)) (@pa_nil _) (by rfl)) (by rfl)) (by decide) (by rfl) (by rfl)))) (@pss_nil _)) (@pss_cons _ _ _ _ _ (@ps_set _ _ (2) _ _ _ _ c__law_sizes.nd rfl (Or.inl rfl) (@pe_qLst _ _ _ _ (@pa_nil _)) (by rfl) (by first | exact .inl rfl | exact .inr rfl | assumption)) (@pss_cons _ _ _ _ _ (@ps_set _ _ (3) _ _ _ _ c__law_sizes.nd rfl (Or.inl rfl) (@pe_int _ _ _ _) (by rfl) (by first | exact .inl rfl | exact .inr rfl | assumption)) (@pss_cons _ _ _ _ _ (@ps_for _ _ _ _ _ _ _ _ PassesOwn.never rfl (@pi_range1 _ _ _ _ _ _ (by rfl) T.z_range (@pa_c _ _ _ _ _ (@pe_call _ _ _ _ _ _ _ _ _ _ _ _ _ _ _ _ G__law_draw (hr.mono (by decide)) (by rfl) T.m__law_draw T.F__law_draw.kp T.b__law_draw .nil pass0 (@pa_c _ _ _ _ _ (@pv _ 0 _ _ (by rfl) (by first | exact Or.inl rfl | exact Or.inr (Or.inl rfl) | exact Or.inr (Or.inr rfl)) (by decide) (by decide)) (@pa_c _ _ _ _ _ (@pe_int _ _ _ _) (@pa_c _ _ _ _ _ (@pe_int _ _ _ _) (@pa_nil _) (by rfl)) (by rfl)) (by rfl)) (by decide) (by rfl) (by rfl)) (@pa_nil _) (by rfl)) (by rfl)) (@pg_name _ _ (4) _ c__law_sizes.nd rfl (Or.inl rfl) (by first | exact .inl rfl | exact .inr rfl | assumption)) (@pss_cons _ _ _ _ _ (@ps_set _ _ (5) _ _ _ _ c__law_sizes.nd rfl (Or.inl rfl) (@pe_op _ _ _ _ _ _ _ _ op_add (@pe_int _ _ _ _) (@pe_call _ _ _ _ _ _ _ _ _ _ _ _ _ _ _ _ G__law_draw (hr.mono (by decide)) (by rfl) T.m__law_draw T.F__law_draw.kp T.b__law_draw .nil pass0 (@pa_c _ _ _ _ _ (@pv _ 0 _ _ (by rfl) (by first | exact Or.inl rfl | exact Or.inr (Or.inl rfl) | exact Or.inr (Or.inr rfl)) (by decide) (by decide)) (@pa_c _ _ _ _ _ (@pe_op _ _ _ _ _ _ _ _ op_add (@pe_int _ _ _ _) (@pv _ 4 _ _ (by rfl) (by first | exact Or.inl rfl | exact Or.inr (Or.inl rfl) | exact Or.inr (Or.inr rfl)) (by decide) (by decide))) (@pa_c _ _ _ _ _ (@pe_int _ _ _ _) (@pa_nil _) (by rfl)) (by rfl)) (by rfl)) (by decide) (by rfl) (by rfl))) (by rfl) (by first | exact .inl rfl | exact .inr rfl | assumption)) (@pss_one _ _ _ (@ps_if _ _ _ _ _ _ _ _ (@pt_cmpR _ _ _ _ _ _ _ _ op_le (@pe_op _ _ _ _ _ _ _ _ op_mul (@pv _ 3 _ _ (by rfl) (by first | exact Or.inl rfl | exact Or.inr (Or.inl rfl) | exact Or.inr (Or.inr rfl)) (by decide) (by decide)) (@pv _ 5 _ _ (by rfl) (by first | exact Or.inl rfl | exact Or.inr (Or.inl rfl) | exact Or.inr (Or.inr rfl)) (by decide) (by decide))) (@pe_int _ _ _ _) (nomark _)) (@pss_cons _ _ _ _ _ (@ps_set _ _ (3) _ _ _ _ c__law_sizes.nd rfl (Or.inl rfl) (@pe_op _ _ _ _ _ _ _ _ op_mul (@pv _ 3 _ _ (by rfl) (by first | exact Or.inl rfl | exact Or.inr (Or.inl rfl) | exact Or.inr (Or.inr rfl)) (by decide) (by decide)) (@pv _ 5 _ _ (by rfl) (by first | exact Or.inl rfl | exact Or.inr (Or.inl rfl) | exact Or.inr (Or.inr rfl)) (by decide) (by decide))) (by rfl) (by first | exact .inl rfl | exact .inr rfl | assumption)) (@pss_one _ _ _ (@ps_expr _ _ _ _ (@pe_bm _ _ _ _ _ _ _ _ _ _ _ _ PySem.F.plainAttrs_list PySem.F.slot_list_append PySem.F.type_list_append mt_append (@pv _ 2 _ _ (by rfl) (by first | exact Or.inl rfl | exact Or.inr (Or.inl rfl) | exact Or.inr (Or.inr rfl)) (by decide) (by decide)) (@pa_c _ _ _ _ _ (@pv _ 5 _ _ (by rfl) (by first | exact Or.inl rfl | exact Or.inr (Or.inl rfl) | exact Or.inr (Or.inr rfl)) (by decide) (by decide)) (@pa_nil _) (by rfl)) (by rfl) (by rfl) (by rfl) (by rfl) (by rfl)) (by rfl)))) (@pss_nil _)))) (by intros; rfl)) (@pss_one _ _ _ (@ps_ret _ _ _ _ (@pv _ 2 _ _ (by rfl) (by first | exact Or.inl rfl | exact Or.inr (Or.inl rfl) | exact Or.inr (Or.inr rfl)) (by decide) (by decide))))))))), ?_⟩
    rw [show start ["_law_script", "_law_way", "_law_sizes_here", "_law_count_here", "_law_k", "_law_size"] [.ref a] = [some (.ref a), none, none, none, none, none] from rfl]
    simp_all (failIfUnchanged := false) only [and_true]
    rw [c_spDraw]
    refine ⟨hS, hl, ⟨by decide, by decide⟩, by decide, fun z hz0 hz1 => ?_⟩
    by_cases h2 : z < 2
    · simp_all (failIfUnchanged := false) only [and_true]
      rw [c_spGreat]
      exact ⟨hS, hl, kk⟩
    · simp_all (failIfUnchanged := false) only [and_true]
      intro r H1 hr1 e1 h1
      have hS1 := e1.2 K a _ hS
      simp_all (failIfUnchanged := false) only [and_true]
      rw [c_spDraw]
      refine ⟨hS1, hl, ⟨by decide, by decide⟩, by decide, fun y hy0 hy1 => ?_⟩
      simp_all (failIfUnchanged := false) only [and_true]
      refine ⟨by omega, by omega, ?_⟩
      refine for_rng (fun i σ H' => ∃ (ms : List Int) (cc : Int) (v4 v5 : Option V), σ = [some (.ref a), some (.int z), some (.ref r), some (.int cc), v4, v5] ∧ Ext H H' ∧ H' r = some (.lst (ms.map V.int)) ∧ ms.length ≤ i ∧ (∀ m ∈ ms, 1 ≤ m ∧ m ≤ 1000000000) ∧ 1 ≤ cc ∧ cc ≤ 300) ⟨[], 1, _, _, rfl, e1, h1, Nat.le_refl _, fun _ h => absurd h List.not_mem_nil, by decide, by decide⟩ ?_ ?_
      · rintro i _ H2 hi ⟨ms, cc, v4, v5, rfl, e2, g2, hml, hmb, hc0, hc1⟩
        have hS2 := e2.2 K a _ hS
        simp_all (failIfUnchanged := false) only [↓m_kBody]
        rw [c_spDraw]
        refine ⟨hS2, hl, ⟨by omega, by omega⟩, by decide, fun x hx0 hx1 => ?_⟩
        have hcm : CMul cc (1 + x) := .inl ⟨by omega, by omega⟩
        have hln : ms.length < sizeLine := lt5000 (by omega)
        by_cases hp : cc * (1 + x) ≤ 300
        · have hp1 : 1 ≤ cc * (1 + x) := Int.le_trans (by omega) (Int.mul_le_mul hc0 (show 1 ≤ 1 + x by omega) (by decide) (by omega) : 1 * 1 ≤ cc * (1 + x))
          simp_all (failIfUnchanged := false) only [and_true]
          refine ⟨ms ++ [1 + x], cc * (1 + x), _, _, rfl, e2.put hr1, by rw [List.map_append]; rfl, by simp; omega, fun m hm => ?_, hp1, hp⟩
          rcases List.mem_append.mp hm with hm | hm
          · exact hmb m hm
          · rw [List.mem_singleton.mp hm]; omega
        · simp_all (failIfUnchanged := false) only [and_true]
          exact ⟨ms, cc, _, _, rfl, e2, rfl, by omega, hmb, hc0, hc1⟩
      · rintro _ H2 ⟨ms, cc, v4, v5, rfl, e2, g2, hml, hmb, hc0, hc1⟩
        simp_all (failIfUnchanged := false) only [and_true]
        exact kk ms r H2 e2 g2 ⟨by omega, hmb⟩

def spLCount  : Sp := fun vs H Q E => ∃ (p : Addr), vs = [.ref p] ∧ (optK (lstAt H p) (kInts (kSz (kCnt H Q))))
theorem c_spLCount  (p : Addr) (H : Hp) (Q : VK) (E : XK) : spLCount  [.ref p] H Q E = (optK (lstAt H p) (kInts (kSz (kCnt H Q)))) := propext ⟨(fun ⟨_, e, q⟩ => by cases e; exact q), fun q => ⟨_, rfl, q⟩⟩
theorem l_spLCount  {vs : List V} {H : Hp} {Q : VK} {E : XK} (h : spLCount  vs H Q E) : vs.length = 1 := by
  obtain ⟨_, rfl, _⟩ := h
  rfl
theorem ok__law_count (T : Tx K mg t) : FnOk P w K mg base CX0 1 t.a__law_count t.d__law_count ["_law_sizes_here"] spLCount := by
  refine T.F__law_count.ok c__law_count (fun vs H Q E h => l_spLCount h) (fun cdv A outer s H vs Q E hr h => ?_)
  · obtain ⟨p, rfl, h⟩ := h
    obtain ⟨xs, hp, ns, rfl, hs, k⟩ := optK_ex h
    replace hp := lst_of hp
    rw [x_kCnt] at k
    refine ⟨_, (@pss_cons _ _ _ _ _ (@ps_set _ _ (1) _ _ _ _ c__law_count.nd rfl (Or.inl rfl) (@pe_int _ _ _ _) (by rfl) (by first | exact .inl rfl | exact .inr rfl | assumption)) (@pss_cons _ _ _ _ _ (@ps_for _ _ _ _ _ _ _ _ PassesOwn.never rfl (@pi_seq _ _ _ _ (@pv _ 0 _ _ (by rfl) (by first | exact Or.inl rfl | exact Or.inr (Or.inl rfl) | exact Or.inr (Or.inr rfl)) (by decide) (by decide))) (@pg_name _ _ (2) _ c__law_count.nd rfl (Or.inl rfl) (by first | exact .inl rfl | exact .inr rfl | assumption)) (@pss_one _ _ _ (@ps_set _ _ (1) _ _ _ _ c__law_count.nd rfl (Or.inl rfl) (@pe_op _ _ _ _ _ _ _ _ op_mulB (@pv _ 1 _ _ (by rfl) (by first | exact Or.inl rfl | exact Or.inr (Or.inl rfl) | exact Or.inr (Or.inr rfl)) (by decide) (by decide)) (@pv _ 2 _ _ (by rfl) (by first | exact Or.inl rfl | exact Or.inr (Or.inl rfl) | exact Or.inr (Or.inr rfl)) (by decide) (by decide))) (by rfl) (by first | exact .inl rfl | exact .inr rfl | assumption))) (by intros; rfl)) (@pss_one _ _ _ (@ps_ret _ _ _ _ (@pv _ 1 _ _ (by rfl) (by first | exact Or.inl rfl | exact Or.inr (Or.inl rfl) | exact Or.inr (Or.inr rfl)) (by decide) (by decide)))))), ?_⟩
    rw [show start ["_law_sizes_here", "_law_count_here", "_law_size"] [.ref p] = [some (.ref p), none, none] from rfl]
    simp_all only [and_true]
    refine for_lst (xs := ns.map V.int) (fun i σ H' => ∃ v : Option V, σ = [some (.ref p), some (.int (prodL (ns.take i))), v] ∧ H' = H) ⟨_, rfl, rfl⟩ (fun i σ H' _ ⟨_, _, e⟩ => by subst e; exact hp) ?_ ?_
    · rintro i x _ _ hi ⟨v, rfl, rfl⟩
      rw [List.getElem?_map] at hi
      obtain ⟨z, hz, rfl⟩ := Option.map_eq_some_iff.mp hi
      have e := prodL_take ns i z hz
      have b1 := (hs.take i).prod
      have b2 := hs.2 z (List.mem_of_getElem? hz)
      have c1 : (prodL (ns.take i)).natAbs < 2 ^ 256 := by
        generalize prodL (ns.take i) = y at b1
        have : (1000000000 : Int) ^ 8 < 2 ^ 256 := by decide
        omega
      have c2 : z.natAbs < 2 ^ 256 := by omega
      clear b1 b2
      simp_all only [↓m_kBody, CMulB_of]
      exact ⟨_, rfl⟩
    · rintro _ _ ⟨v, rfl, rfl⟩
      rw [List.length_map, List.take_length]
      simp_all only [and_true]

theorem getElem?_zs {zs : List (List Int)} {ys : List V} {H : Hp} (al : Al (TupV H) zs ys) {i : Nat} {y : V} (h : ys[i]? = some y) : ∃ z, zs[i]? = some z ∧ TupV H z y := by
  have hi : i < ys.length := (List.getElem?_eq_some_iff.mp h).1
  have hz : zs[i]? = some (zs[i]'(by rw [← al.1]; exact hi)) := List.getElem?_eq_getElem _
  exact ⟨_, hz, al.2 i _ y hz h⟩
theorem flat_step {α β : Type} (zs : List α) (f : α → List β) (j : Nat) (z : α) (h : zs[j]? = some z) : (zs.take (j + 1)).flatMap f = (zs.take j).flatMap f ++ f z := by
  rw [List.take_succ, h, List.flatMap_append]; simp
theorem flat_len (zs : List (List Int)) (n : Nat) : ∀ j : Nat, ((zs.take j).flatMap fun row => (List.range n).map fun k => row ++ [((k : Nat) : Int)]).length ≤ zs.length * n := by
  intro j
  have e : ((zs.take j).flatMap fun row => (List.range n).map fun k => row ++ [((k : Nat) : Int)]).length = (zs.take j).length * n := by
    generalize zs.take j = l
    induction l with
    | nil => simp
    | cons a r ih => rw [List.flatMap_cons, List.length_append, ih, List.length_map, List.length_range, List.length_cons, Nat.succ_mul, Nat.add_comm]
  rw [e]
  exact Nat.mul_le_mul_right n (by rw [List.length_take]; omega)
def spAll  : Sp := fun vs H Q E => ∃ (p : Addr), vs = [.ref p] ∧ (∃ ns : List Int, H p = some (.lst (ns.map V.int)) ∧ Sizes ns ∧ prodL ns ≤ 4096 ∧ ∀ (r : Addr) (H' : Hp), Ext H H' → TupsAt H' r (rowsL ns) → Q (.ref r) H')
theorem c_spAll  (p : Addr) (H : Hp) (Q : VK) (E : XK) : spAll  [.ref p] H Q E = (∃ ns : List Int, H p = some (.lst (ns.map V.int)) ∧ Sizes ns ∧ prodL ns ≤ 4096 ∧ ∀ (r : Addr) (H' : Hp), Ext H H' → TupsAt H' r (rowsL ns) → Q (.ref r) H') := propext ⟨(fun ⟨_, e, q⟩ => by cases e; exact q), fun q => ⟨_, rfl, q⟩⟩
theorem l_spAll  {vs : List V} {H : Hp} {Q : VK} {E : XK} (h : spAll  vs H Q E) : vs.length = 1 := by
  obtain ⟨_, rfl, _⟩ := h
  rfl
theorem ok__law_all (T : Tx K mg t) : FnOk P w K mg base CX0 1 t.a__law_all t.d__law_all ["_law_sizes_here"] spAll := by
  refine T.F__law_all.ok c__law_all (fun vs H Q E h => l_spAll h) (fun cdv A outer s H vs Q E hr h => ?_)
  · obtain ⟨p, rfl, ns, hp, hs, hc, kk⟩ := h
    refine ⟨_, (@pss_cons _ _ _ _ _ (@ps_set _ _ (1) _ _ _ _ c__law_all.nd rfl (Or.inl rfl) (@pe_qLst _ _ _ _ (@pa_c _ _ _ _ _ (@pe_qTup _ _ _ _ _ (@pa_nil _)) (@pa_nil _) (by rfl))) (by rfl) (by first | exact .inl rfl | exact .inr rfl | assumption)) (@pss_cons _ _ _ _ _ (@ps_for _ _ _ _ _ _ _ _ PassesOwn.never rfl (@pi_seq _ _ _ _ (@pv _ 0 _ _ (by rfl) (by first | exact Or.inl rfl | exact Or.inr (Or.inl rfl) | exact Or.inr (Or.inr rfl)) (by decide) (by decide))) (@pg_name _ _ (2) _ c__law_all.nd rfl (Or.inl rfl) (by first | exact .inl rfl | exact .inr rfl | assumption)) (@pss_cons _ _ _ _ _ (@ps_set _ _ (3) _ _ _ _ c__law_all.nd rfl (Or.inl rfl) (@pe_qLst _ _ _ _ (@pa_nil _)) (by rfl) (by first | exact .inl rfl | exact .inr rfl | assumption)) (@pss_cons _ _ _ _ _ (@ps_for _ _ _ _ _ _ _ _ PassesOwn.never rfl (@pi_seq _ _ _ _ (@pv _ 1 _ _ (by rfl) (by first | exact Or.inl rfl | exact Or.inr (Or.inl rfl) | exact Or.inr (Or.inr rfl)) (by decide) (by decide))) (@pg_name _ _ (4) _ c__law_all.nd rfl (Or.inl rfl) (by first | exact .inl rfl | exact .inr rfl | assumption)) (@pss_one _ _ _ (@ps_for _ _ _ _ _ _ _ _ PassesOwn.never rfl (@pi_range1 _ _ _ _ _ _ (by rfl) T.z_range (@pa_c _ _ _ _ _ (@pv _ 2 _ _ (by rfl) (by first | exact Or.inl rfl | exact Or.inr (Or.inl rfl) | exact Or.inr (Or.inr rfl)) (by decide) (by decide)) (@pa_nil _) (by rfl)) (by rfl)) (@pg_name _ _ (5) _ c__law_all.nd rfl (Or.inl rfl) (by first | exact .inl rfl | exact .inr rfl | assumption)) (@pss_one _ _ _ (@ps_expr _ _ _ _ (@pe_bm _ _ _ _ _ _ _ _ _ _ _ _ PySem.F.plainAttrs_list PySem.F.slot_list_append PySem.F.type_list_append mt_append (@pv _ 3 _ _ (by rfl) (by first | exact Or.inl rfl | exact Or.inr (Or.inl rfl) | exact Or.inr (Or.inr rfl)) (by decide) (by decide)) (@pa_c _ _ _ _ _ (@pe_op _ _ _ _ _ _ _ _ op_nCatT (@pv _ 4 _ _ (by rfl) (by first | exact Or.inl rfl | exact Or.inr (Or.inl rfl) | exact Or.inr (Or.inr rfl)) (by decide) (by decide)) (@pe_qTup _ _ _ _ _ (@pa_c _ _ _ _ _ (@pv _ 5 _ _ (by rfl) (by first | exact Or.inl rfl | exact Or.inr (Or.inl rfl) | exact Or.inr (Or.inr rfl)) (by decide) (by decide)) (@pa_nil _) (by rfl)))) (@pa_nil _) (by rfl)) (by rfl) (by rfl) (by rfl) (by rfl) (by rfl)) (by rfl))) (by intros; rfl))) (by intros; rfl)) (@pss_one _ _ _ (@ps_set _ _ (1) _ _ _ _ c__law_all.nd rfl (Or.inl rfl) (@pv _ 3 _ _ (by rfl) (by first | exact Or.inl rfl | exact Or.inr (Or.inl rfl) | exact Or.inr (Or.inr rfl)) (by decide) (by decide)) (by rfl) (by first | exact .inl rfl | exact .inr rfl | assumption))))) (by intros; rfl)) (@pss_one _ _ _ (@ps_ret _ _ _ _ (@pv _ 1 _ _ (by rfl) (by first | exact Or.inl rfl | exact Or.inr (Or.inl rfl) | exact Or.inr (Or.inr rfl)) (by decide) (by decide)))))), ?_⟩
    rw [show start ["_law_sizes_here", "_law_rows", "_law_size", "_law_longer", "_law_row", "_law_number"] [.ref p] = [some (.ref p), none, none, none, none, none] from rfl]
    simp_all (failIfUnchanged := false) only [and_true]
    intro q0 H0 hq0 e0 h0
    simp_all (failIfUnchanged := false) only [and_true]
    intro r H1 hr1 e1 h1
    have hp1 := (e0.trans e1).at hp
    simp_all (failIfUnchanged := false) only [and_true]
    refine for_lst (xs := ns.map V.int) (fun i σ H' => ∃ (r : Addr) (v2 v3 v4 v5 : Option V), σ = [some (.ref p), some (.ref r), v2, v3, v4, v5] ∧ Ext H H' ∧ TupsAt H' r (rowsL (ns.take i))) ⟨r, _, _, _, _, rfl, e0.trans e1, ⟨_, h1, rfl, fun i z y hz hy => ?_⟩⟩ (fun i σ H' _ ⟨_, _, _, _, _, _, e, _⟩ => e.at hp) ?_ ?_
    · have e' : rowsL (ns.take 0) = [[]] := rfl
      rw [e'] at hz
      cases i with
      | zero => simp at hz hy; subst hz; subst hy; exact ⟨q0, rfl, e1.at h0⟩
      | succ i => simp at hz
    · rintro i x _ H2 hi ⟨r, v2, v3, v4, v5, rfl, e2, ⟨ys, hr2, al⟩⟩
      rw [List.getElem?_map] at hi
      obtain ⟨n, hn, rfl⟩ := Option.map_eq_some_iff.mp hi
      have hb := hs.2 n (List.mem_of_getElem? hn)
      have hpp := (hs.take i).prod.1
      have htk : ns.take (i + 1) = ns.take i ++ [n] := by rw [List.take_add_one, hn]; rfl
      have hrow : rowsL (ns.take (i + 1)) = (rowsL (ns.take i)).flatMap fun row => (List.range n.toNat).map fun k => row ++ [((k : Nat) : Int)] := by
        rw [htk]; exact rowsL_snoc _ n (by omega) (by omega)
      have hlen : (rowsL (ns.take i)).length * n.toNat ≤ 4096 := by
        have q1 := prodL_take_le ns hs.2 (i + 1)
        rw [htk, prodL_append, show prodL [n] = n by simp [prodL]] at q1
        rw [rowsL_len]
        have q2 : ((prodL (ns.take i)).toNat * n.toNat : Nat) = (prodL (ns.take i) * n).toNat := by
          obtain ⟨a, ha⟩ := Int.eq_ofNat_of_zero_le (show 0 ≤ prodL (ns.take i) by omega)
          obtain ⟨b, hb'⟩ := Int.eq_ofNat_of_zero_le (show 0 ≤ n by omega)
          rw [ha, hb']; rfl
        omega
      have hsm : ∀ z ∈ rowsL (ns.take i), z.length ≤ 8 := fun z hz => by
        unfold rowsL at hz
        obtain ⟨j, _, rfl⟩ := List.mem_map.mp hz
        rw [splitL_len]
        exact (hs.take i).1
      clear hi
      simp_all (failIfUnchanged := false) only [↓m_kBody]
      intro L H3 hL e3 h3
      have hrL : r ≠ L := fun z => by rw [z, hL] at hr2; cases hr2
      simp_all (failIfUnchanged := false) only [and_true]
      have hr3 := e3.at hr2
      simp_all (failIfUnchanged := false) only [and_true]
      refine for_lst (xs := ys) (fun j σ H' => ∃ (v4 v5 : Option V) (zs' : List V), σ = [some (.ref p), some (.ref r), some (.int n), some (.ref L), v4, v5] ∧ Ext H2 H' ∧ H' L = some (.lst zs') ∧ Al (TupV H') (((rowsL (ns.take i)).take j).flatMap fun row => (List.range n.toNat).map fun k => row ++ [((k : Nat) : Int)]) zs') ⟨_, _, [], rfl, e3, h3, by simpa using Al.nil⟩ (fun j σ H' _ ⟨_, _, _, _, e, _⟩ => e.at hr2) ?_ ?_
      · rintro j y _ H4 hj ⟨v4, v5, zs', rfl, e4, g4, al4⟩
        obtain ⟨z, hz, q, rfl, hq⟩ := getElem?_zs (al.imp fun _ _ t => t.ext e4) hj
        have hzl := hsm z (List.mem_of_getElem? hz)
        have hst := flat_step (rowsL (ns.take i)) (fun row => (List.range n.toNat).map fun k => row ++ [((k : Nat) : Int)]) j z hz
        have hfl := flat_len (rowsL (ns.take i)) n.toNat (j + 1)
        rw [hst, List.length_append, List.length_map, List.length_range] at hfl
        have hzs := al4.1
        have hq2 : ∀ {H'}, Ext H2 H' → True := fun _ => trivial
        simp_all (failIfUnchanged := false) only [↓m_kBody]
        refine ⟨by omega, by omega, ?_⟩
        refine for_rng (fun k σ H' => ∃ (v5 : Option V) (zs'' : List V), σ = [some (.ref p), some (.ref r), some (.int n), some (.ref L), some (.ref q), v5] ∧ Ext H2 H' ∧ H' q = some (.tup (z.map V.int)) ∧ H' L = some (.lst zs'') ∧ Al (TupV H') ((((rowsL (ns.take i)).take j).flatMap fun row => (List.range n.toNat).map fun k => row ++ [((k : Nat) : Int)]) ++ (List.range k).map fun k => z ++ [((k : Nat) : Int)]) zs'') ⟨_, zs', rfl, e4, hq, g4, by simpa using al4⟩ ?_ ?_
        · rintro k _ H5 hk ⟨v5, zs'', rfl, e5, hq5, g5, al5⟩
          have hk' : k < n.toNat := hk
          have hll : zs''.length < sizeLine := lt5000 (by rw [al5.1, List.length_append, List.length_map, List.length_range]; omega)
          have hqL : q ≠ L := fun z => by rw [z, g5] at hq5; cases hq5
          have hsz : (z.map V.int).length + 1 ≤ sizeLine := len5000 (by rw [List.length_map]; omega)
          simp_all (failIfUnchanged := false) only [↓m_kBody]
          intro t1 H6 ht1 e6 h6
          have hq6 := e6.at hq5
          have g6 := e6.at g5
          simp_all (failIfUnchanged := false) only [and_true]
          rw [x_kCT2]
          refine ⟨hsz, fun t2 H7 e7 h7 => ?_⟩
          have hq7 := e7.at hq6
          have g7 := e7.at g6
          have al7 : Al (TupV H7) _ zs'' := al5.imp fun _ _ t => t.ext (e6.trans e7)
          clear al5 al4 al
          simp_all (failIfUnchanged := false) only [and_true]
          refine ⟨_, _, rfl, ((e5.trans e6).trans e7).put hL, ?_, rfl, ?_⟩
          · rw [upd_ne hqL]; exact hq7
          · rw [List.range_succ, List.map_append, ← List.append_assoc]
            refine Al.snoc (al7.imp fun _ _ t => t.upd g7) ⟨t2, rfl, ?_⟩
            rw [upd_ne (fun z => by rw [z, g7] at h7; cases h7), h7]
            simp
        · rintro _ H5 ⟨v5, zs'', rfl, e5, hq5, g5, al5⟩
          simp_all (failIfUnchanged := false) only [and_true]
          exact ⟨_, _, zs'', rfl, e5, rfl, al5⟩
      · rintro _ H4 ⟨v4, v5, zs', rfl, e4, g4, al4⟩
        rw [al.1, List.take_length] at al4
        simp_all (failIfUnchanged := false) only [and_true]
        exact ⟨L, _, _, _, _, rfl, e2.trans e4, zs', g4, al4⟩
    · rintro _ H2 ⟨r, v2, v3, v4, v5, rfl, e2, tt⟩
      rw [List.length_map, List.take_length] at tt
      simp_all (failIfUnchanged := false) only [and_true]
      exact kk r H2 e2 tt

def spRight  : Sp := fun vs H Q E => ∃ (p : Addr) (q : Addr), vs = [.ref p, .ref q] ∧ (∃ zs : List (List Int), TupsAt H p zs ∧ TupsAt H q zs ∧ zs.length ≤ 4096 ∧ Q (.bl true) H)
theorem c_spRight  (p : Addr) (q : Addr) (H : Hp) (Q : VK) (E : XK) : spRight  [.ref p, .ref q] H Q E = (∃ zs : List (List Int), TupsAt H p zs ∧ TupsAt H q zs ∧ zs.length ≤ 4096 ∧ Q (.bl true) H) := propext ⟨(fun ⟨_, _, e, q⟩ => by cases e; exact q), fun q => ⟨_, _, rfl, q⟩⟩
theorem l_spRight  {vs : List V} {H : Hp} {Q : VK} {E : XK} (h : spRight  vs H Q E) : vs.length = 2 := by
  obtain ⟨_, _, rfl, _⟩ := h
  rfl
theorem ok__law_right (T : Tx K mg t) : FnOk P w K mg base CX0 2 t.a__law_right t.d__law_right ["_law_found", "_law_due"] spRight := by
  have G__law_whole := ok__law_whole (P := P) (w := w) (base := base) T
  refine T.F__law_right.ok c__law_right (fun vs H Q E h => l_spRight h) (fun cdv A outer s H vs Q E hr h => ?_)
  · obtain ⟨p, q, rfl, zs, ⟨ys, hp, al⟩, ⟨ys2, hq, al2⟩, hl, k⟩ := h
    refine ⟨_, (@pss_cons _ _ _ _ _ (@ps_if _ _ _ _ _ _ _ _ (PW.pt (@pw_or _ _ _ _ _ _ _ (@pt_not _ _ _ _ (@pt_val _ _ _ (@pe_callB _ _ _ _ _ _ _ ("isinstance") _ call_qIsi (by rfl) T.z_isinstance (by decide +kernel) (@pa_c _ _ _ _ _ (@pv _ 0 _ _ (by rfl) (by first | exact Or.inl rfl | exact Or.inr (Or.inl rfl) | exact Or.inr (Or.inr rfl)) (by decide) (by decide)) (@pa_c _ _ _ _ _ (@pe_bltn _ _ (.ty "list") (.type "list") _ (by rfl) T.z_list (by decide +kernel) rfl (by decide) (by decide)) (@pa_nil _) (by rfl)) (by rfl)) (by decide) (by decide) (by rfl) (by rfl)) (by intros; rfl))) (@pw_or1 _ _ _ _ (@pt_cmpR _ _ _ _ _ _ _ _ (op_qNe hr.units) (@pv _ 0 _ _ (by rfl) (by first | exact Or.inl rfl | exact Or.inr (Or.inl rfl) | exact Or.inr (Or.inr rfl)) (by decide) (by decide)) (@pv _ 1 _ _ (by rfl) (by first | exact Or.inl rfl | exact Or.inr (Or.inl rfl) | exact Or.inr (Or.inr rfl)) (by decide) (by decide)) (nomark _))))) (@pss_one _ _ _ (@ps_ret _ _ _ _ (@pe_bl _ _ _ _))) (@pss_nil _)) (@pss_cons _ _ _ _ _ (@ps_for _ _ _ _ _ _ _ _ PassesOwn.never rfl (@pi_seq _ _ _ _ (@pv _ 0 _ _ (by rfl) (by first | exact Or.inl rfl | exact Or.inr (Or.inl rfl) | exact Or.inr (Or.inr rfl)) (by decide) (by decide))) (@pg_name _ _ (2) _ c__law_right.nd rfl (Or.inl rfl) (by first | exact .inl rfl | exact .inr rfl | assumption)) (@pss_one _ _ _ (@ps_for _ _ _ _ _ _ _ _ PassesOwn.never rfl (@pi_seq _ _ _ _ (@pv _ 2 _ _ (by rfl) (by first | exact Or.inl rfl | exact Or.inr (Or.inl rfl) | exact Or.inr (Or.inr rfl)) (by decide) (by decide))) (@pg_name _ _ (3) _ c__law_right.nd rfl (Or.inl rfl) (by first | exact .inl rfl | exact .inr rfl | assumption)) (@pss_one _ _ _ (@ps_if _ _ _ _ _ _ _ _ (@pt_not _ _ _ _ (@pt_val _ _ _ (@pe_call _ _ _ _ _ _ _ _ _ _ _ _ _ _ _ _ G__law_whole (hr.mono (by decide)) (by rfl) T.m__law_whole T.F__law_whole.kp T.b__law_whole .nil pass0 (@pa_c _ _ _ _ _ (@pv _ 3 _ _ (by rfl) (by first | exact Or.inl rfl | exact Or.inr (Or.inl rfl) | exact Or.inr (Or.inr rfl)) (by decide) (by decide)) (@pa_nil _) (by rfl)) (by decide) (by rfl) (by rfl)) (by intros; rfl))) (@pss_one _ _ _ (@ps_ret _ _ _ _ (@pe_bl _ _ _ _))) (@pss_nil _))) (by intros; rfl))) (by intros; rfl)) (@pss_one _ _ _ (@ps_ret _ _ _ _ (@pe_bl _ _ _ _))))), ?_⟩
    rw [show start ["_law_found", "_law_due", "_law_place", "_law_number"] [.ref p, .ref q] = [some (.ref p), some (.ref q), none, none] from rfl]
    have d1 := tups_all (H := H) (f := datF H (datF H (datF H noD))) al
    have d2 := tups_all (H := H) (f := datF H (datF H (datF H noD))) al2
    have d3 := tups_eqv zs
    simp_all (failIfUnchanged := false) only [and_true]
    refine for_lst (xs := ys) (fun i σ H' => ∃ v2 v3 : Option V, σ = [some (.ref p), some (.ref q), v2, v3] ∧ H' = H) ⟨_, _, rfl, rfl⟩ (fun i σ H' _ ⟨_, _, _, e⟩ => by rw [e]; exact hp) ?_ ?_
    · rintro i y _ _ hi ⟨v2, v3, rfl, rfl⟩
      obtain ⟨z, hz, r, rfl, hr'⟩ := getElem?_zs al hi
      clear d1 d2 d3
      simp_all (failIfUnchanged := false) only [↓m_kBody]
      rename_i H
      refine for_tupl (xs := z.map V.int) (fun j σ H' => ∃ v3 : Option V, σ = [some (.ref p), some (.ref q), some (.ref r), v3] ∧ H' = H) ⟨_, rfl, rfl⟩ (fun j σ H' _ ⟨_, _, e⟩ => by rw [e]; exact hr') ?_ ?_
      · rintro j x _ _ hj ⟨v3, rfl, rfl⟩
        rw [List.getElem?_map] at hj
        obtain ⟨m, _, rfl⟩ := Option.map_eq_some_iff.mp hj
        simp_all (failIfUnchanged := false) only [↓m_kBody, ↓c_spWhole]
        exact ⟨_, rfl⟩
      · rintro _ _ ⟨v3, rfl, rfl⟩
        simp_all (failIfUnchanged := false) only [and_true]
        exact ⟨_, _, rfl⟩
    · rintro _ _ ⟨v2, v3, rfl, rfl⟩
      simp_all (failIfUnchanged := false) only [and_true]
def spRefused  : Sp := fun vs H Q E => ∃ (p : Addr) (n : Int), vs = [.ref p, .int n] ∧ (∃ ns : List Int, H p = some (.lst (ns.map V.int)) ∧ Sizes ns ∧ n = prodL ns ∧ 4096 < n ∧ ∀ H', Ext H H' → Q (.bl true) H')
theorem c_spRefused  (p : Addr) (n : Int) (H : Hp) (Q : VK) (E : XK) : spRefused  [.ref p, .int n] H Q E = (∃ ns : List Int, H p = some (.lst (ns.map V.int)) ∧ Sizes ns ∧ n = prodL ns ∧ 4096 < n ∧ ∀ H', Ext H H' → Q (.bl true) H') := propext ⟨(fun ⟨_, _, e, q⟩ => by cases e; exact q), fun q => ⟨_, _, rfl, q⟩⟩
theorem l_spRefused  {vs : List V} {H : Hp} {Q : VK} {E : XK} (h : spRefused  vs H Q E) : vs.length = 2 := by
  obtain ⟨_, _, rfl, _⟩ := h
  rfl
theorem ok__law_refused (T : Tx K mg t) : FnOk P w K mg base CX0 5 t.a__law_refused t.d__law_refused ["_law_sizes_here", "_law_count_here"] spRefused := by
  have G_places := ok_places (P := P) (w := w) (base := base) T
  have G__law_whole := ok__law_whole (P := P) (w := w) (base := base) T
  refine T.F__law_refused.ok c__law_refused (fun vs H Q E h => l_spRefused h) (fun cdv A outer s H vs Q E hr h => ?_)
  · obtain ⟨p, n, rfl, ns, hp, hs, hn, hg, k⟩ := h
    have hx1 := T.x_TooMany_TooMany
    have hx2 := T.x_TooMany_PaceError
    have so1 : PyData.strOk (Str.ofString "many") = true := by decide +kernel
    have so2 : PyData.strOk (Str.ofString "base") = true := by decide +kernel
    refine ⟨_, (@pss_cons _ _ _ _ _ (@ps_set _ _ (2) _ _ _ _ c__law_refused.nd rfl (Or.inl rfl) (@pe_str _ _ _ _) (by rfl) (by first | exact .inl rfl | exact .inr rfl | assumption)) (@pss_cons _ _ _ _ _ (@ps_set _ _ (3) _ _ _ _ c__law_refused.nd rfl (Or.inl rfl) (@pe_int _ _ _ _) (by rfl) (by first | exact .inl rfl | exact .inr rfl | assumption)) (@pss_cons _ _ _ _ _ (@ps_try _ _ _ _ _ _ _ ⟨rfl, rfl, rfl⟩ (fun EX E pn hx => (@pss_one _ _ _ (@ps_expr _ _ _ _ (@pe_callX _ _ _ _ _ _ _ _ _ _ _ _ _ _ _ _ G_places (hr.mono (by decide)) (by rfl) T.m_places T.F_places.kp T.b_places .nil hx (@pa_c _ _ _ _ _ (@pv _ 0 _ _ (by rfl) (by first | exact Or.inl rfl | exact Or.inr (Or.inl rfl) | exact Or.inr (Or.inr rfl)) (by decide) (by decide)) (@pa_nil _) (by rfl)) (by decide) (by rfl) (by rfl)) (by rfl)))) (@phs_as _ _ _ (4) _ _ _ _ _ _ _ _ c__law_refused.nd rfl rfl (by rfl) (.inl T.m_TooMany) (fun ee => (@pss_cons _ _ _ _ _ (@ps_set _ _ (2) _ _ _ _ c__law_refused.nd rfl (Or.inl rfl) (@pe_str _ _ _ _) (by rfl) (by first | exact .inl rfl | exact .inr rfl | assumption)) (@pss_one _ _ _ (@ps_set _ _ (3) _ _ _ _ c__law_refused.nd rfl (Or.inl rfl) (@pe_xfld' _ (K) rfl _ _ _ _ (@pv _ 4 _ _ (by rfl) (by first | exact Or.inl rfl | exact Or.inr (Or.inl rfl) | exact Or.inr (Or.inr rfl)) (by decide) (by decide)) rfl) (by rfl) (by first | exact .inl rfl | exact .inr rfl | assumption))))) (@phs_nil _) (by decide))) (@pss_cons _ _ _ _ _ (@ps_if _ _ _ _ _ _ _ _ (PW.pt (@pw_or _ _ _ _ _ _ _ (@pt_cmpR _ _ _ _ _ _ _ _ (op_qNe hr.units) (@pv _ 2 _ _ (by rfl) (by first | exact Or.inl rfl | exact Or.inr (Or.inl rfl) | exact Or.inr (Or.inr rfl)) (by decide) (by decide)) (@pe_str _ _ _ _) (nomark _)) (@pw_or _ _ _ _ _ _ _ (@pt_not _ _ _ _ (@pt_val _ _ _ (@pe_call _ _ _ _ _ _ _ _ _ _ _ _ _ _ _ _ G__law_whole (hr.mono (by decide)) (by rfl) T.m__law_whole T.F__law_whole.kp T.b__law_whole .nil pass0 (@pa_c _ _ _ _ _ (@pv _ 3 _ _ (by rfl) (by first | exact Or.inl rfl | exact Or.inr (Or.inl rfl) | exact Or.inr (Or.inr rfl)) (by decide) (by decide)) (@pa_nil _) (by rfl)) (by decide) (by rfl) (by rfl)) (by intros; rfl))) (@pw_or1 _ _ _ _ (@pt_cmpR _ _ _ _ _ _ _ _ (op_qNe hr.units) (@pv _ 3 _ _ (by rfl) (by first | exact Or.inl rfl | exact Or.inr (Or.inl rfl) | exact Or.inr (Or.inr rfl)) (by decide) (by decide)) (@pv _ 1 _ _ (by rfl) (by first | exact Or.inl rfl | exact Or.inr (Or.inl rfl) | exact Or.inr (Or.inr rfl)) (by decide) (by decide)) (nomark _)))))) (@pss_one _ _ _ (@ps_ret _ _ _ _ (@pe_bl _ _ _ _))) (@pss_nil _)) (@pss_cons _ _ _ _ _ (@ps_try _ _ _ _ _ _ _ ⟨rfl, rfl, rfl⟩ (fun EX E pn hx => (@pss_one _ _ _ (@ps_expr _ _ _ _ (@pe_callX _ _ _ _ _ _ _ _ _ _ _ _ _ _ _ _ G_places (hr.mono (by decide)) (by rfl) T.m_places T.F_places.kp T.b_places .nil hx (@pa_c _ _ _ _ _ (@pv _ 0 _ _ (by rfl) (by first | exact Or.inl rfl | exact Or.inr (Or.inl rfl) | exact Or.inr (Or.inr rfl)) (by decide) (by decide)) (@pa_nil _) (by rfl)) (by decide) (by rfl) (by rfl)) (by rfl)))) (@phs_as _ _ _ (4) _ _ _ _ _ _ _ _ c__law_refused.nd rfl rfl (by rfl) (.inl T.m_PaceError) (fun ee => (@pss_cons _ _ _ _ _ (@ps_set _ _ (2) _ _ _ _ c__law_refused.nd rfl (Or.inl rfl) (@pe_str _ _ _ _) (by rfl) (by first | exact .inl rfl | exact .inr rfl | assumption)) (@pss_one _ _ _ (@ps_if _ _ _ _ _ _ _ _ (PW.pt (@pw_and _ _ _ _ _ _ _ (@pt_val _ _ _ (@pe_callB _ _ _ _ _ _ _ ("isinstance") _ (call_qIsE' (K := K) rfl) (by rfl) T.z_isinstance (by decide +kernel) (@pa_c _ _ _ _ _ (@pv _ 4 _ _ (by rfl) (by first | exact Or.inl rfl | exact Or.inr (Or.inl rfl) | exact Or.inr (Or.inr rfl)) (by decide) (by decide)) (@pa_c _ _ _ _ _ (@pe_bltn _ _ (.ty "ValueError") (.type "ValueError") _ (by rfl) T.z_ValueError (by decide +kernel) rfl (by decide) (by decide)) (@pa_nil _) (by rfl)) (by rfl)) (by decide) (by decide) (by rfl) (by rfl)) (by intros; rfl)) (@pw_and _ _ _ _ _ _ _ (@pt_not _ _ _ _ (@pt_val _ _ _ (@pe_callB _ _ _ _ _ _ _ ("isinstance") _ (call_qIsE' (K := K) rfl) (by rfl) T.z_isinstance (by decide +kernel) (@pa_c _ _ _ _ _ (@pv _ 4 _ _ (by rfl) (by first | exact Or.inl rfl | exact Or.inr (Or.inl rfl) | exact Or.inr (Or.inr rfl)) (by decide) (by decide)) (@pa_c _ _ _ _ _ (@pe_glob _ _ (.ref t.a_NoPlace) _ _ (by rfl) T.m_NoPlace rfl (by decide)) (@pa_nil _) (by rfl)) (by rfl)) (by decide) (by decide) (by rfl) (by rfl)) (by intros; rfl))) (@pw_and1 _ _ _ _ (@pt_not _ _ _ _ (@pt_val _ _ _ (@pe_callB _ _ _ _ _ _ _ ("isinstance") _ (call_qIsE' (K := K) rfl) (by rfl) T.z_isinstance (by decide +kernel) (@pa_c _ _ _ _ _ (@pv _ 4 _ _ (by rfl) (by first | exact Or.inl rfl | exact Or.inr (Or.inl rfl) | exact Or.inr (Or.inr rfl)) (by decide) (by decide)) (@pa_c _ _ _ _ _ (@pe_glob _ _ (.ref t.a_NoCells) _ _ (by rfl) T.m_NoCells rfl (by decide)) (@pa_nil _) (by rfl)) (by rfl)) (by decide) (by decide) (by rfl) (by rfl)) (by intros; rfl))))))) (@pss_one _ _ _ (@ps_set _ _ (2) _ _ _ _ c__law_refused.nd rfl (Or.inl rfl) (@pe_str _ _ _ _) (by rfl) (by first | exact .inl rfl | exact .inr rfl | assumption))) (@pss_nil _))))) (@phs_nil _) (by decide))) (@pss_one _ _ _ (@ps_ret _ _ _ _ (@pe_cmpR _ _ _ _ _ _ _ _ (op_qEq hr.units) (@pv _ 2 _ _ (by rfl) (by first | exact Or.inl rfl | exact Or.inr (Or.inl rfl) | exact Or.inr (Or.inr rfl)) (by decide) (by decide)) (@pe_str _ _ _ _) (nomark _))))))))), ?_⟩
    rw [show start ["_law_sizes_here", "_law_count_here", "_law_kind", "_law_number", "e"] [.ref p, .int n] = [some (.ref p), some (.int n), none, none, none] from rfl]
    subst hn
    have hng : ¬ prodL ns ≤ 4096 := by omega
    simp_all (failIfUnchanged := false) only [↓c_spPlaces, ↓m_kSz]
    rw [x_kAllP]
    refine ⟨fun h => absurd h hng, fun _ dx H1 e1 h1 => ?_⟩
    simp_all (failIfUnchanged := false) only [and_true]
    intro e oe he hcl hdc hdat
    have hdx : dx ≠ e := ne_of_none h1 he
    refine ⟨e, oe, t.a_TooMany, dx, [("number", .int (prodL ns))], .int (prodL ns), rfl, upd_same, hcl, hdc, hdat, by rw [upd_ne hdx]; exact h1, T.e_TooMany, T.na_TooMany_number, rfl, ?_⟩
    have e2 : Ext H1 (upd H1 e (excO oe)) := Ext.new he
    generalize upd H1 e (excO oe) = H2 at e2
    have eH2 := e1.trans e2
    have hp2 := eH2.at hp
    clear hcl hdc hdat h1 hdx he
    simp_all (failIfUnchanged := false) only [↓c_spWhole]
    simp_all (failIfUnchanged := false) only [↓c_spPlaces, ↓m_kSz]
    rw [x_kAllP]
    refine ⟨fun h => absurd h hng, fun _ dx2 H3 e3 h3 => ?_⟩
    simp_all (failIfUnchanged := false) only [and_true]
    intro e' oe' he' hcl' hdc' hdat'
    have hdx2 : dx2 ≠ e' := ne_of_none h3 he'
    have g3 : (upd H3 e' (excO oe')) dx2 = some (.xd [("number", .int (prodL ns))]) := by rw [upd_ne hdx2]; exact h3
    have g4 : (upd H3 e' (excO oe')) e' = some (excO oe') := upd_same
    have k' := k _ (eH2.trans (e3.trans (Ext.new he') : Ext H2 (upd H3 e' (excO oe'))))
    generalize upd H3 e' (excO oe') = H4 at g3 g4 k'
    clear k h3
    simp_all (failIfUnchanged := false) only [T.e_TooMany, T.k_TooMany_NoPlace, T.k_TooMany_NoCells, T.k_TooMany_ValueError]

def spLaw (K : PySem.W.Frag) : Sp := fun vs H Q E => ∃ (a : Addr), vs = [.ref a] ∧ (∃ ns : List Int, SqL K H a (ns.map V.int) ∧ ns.length ≤ 63 ∧ ∀ H', Q (.bl true) H')
theorem c_spLaw (K : PySem.W.Frag) (a : Addr) (H : Hp) (Q : VK) (E : XK) : spLaw K [.ref a] H Q E = (∃ ns : List Int, SqL K H a (ns.map V.int) ∧ ns.length ≤ 63 ∧ ∀ H', Q (.bl true) H') := propext ⟨(fun ⟨_, e, q⟩ => by cases e; exact q), fun q => ⟨_, rfl, q⟩⟩
theorem l_spLaw (K : PySem.W.Frag) {vs : List V} {H : Hp} {Q : VK} {E : XK} (h : spLaw K vs H Q E) : vs.length = 1 := by
  obtain ⟨_, rfl, _⟩ := h
  rfl
theorem ok_law (T : Tx K mg t) : FnOk P w K mg base CX0 6 t.a_law t.d_law ["_law_script"] (spLaw K) := by
  refine T.F_law.ok c_law (fun vs H Q E h => l_spLaw _ h) (fun cdv A outer s H vs Q E hr h => ?_)
  · obtain ⟨a, rfl, ns, hS, hl, k⟩ := h
    have G__law_sizes := ok__law_sizes (P := P) (w := w) (base := base) T a ns
    have G__law_count := ok__law_count (P := P) (w := w) (base := base) T
    have G__law_refused := ok__law_refused (P := P) (w := w) (base := base) T
    have G__law_all := ok__law_all (P := P) (w := w) (base := base) T
    have G_places := ok_places (P := P) (w := w) (base := base) T
    have G__law_right := ok__law_right (P := P) (w := w) (base := base) T
    refine ⟨_, (@pss_cons _ _ _ _ _ (@ps_set _ _ (1) _ _ _ _ c_law.nd rfl (Or.inl rfl) (@pe_call _ _ _ _ _ _ _ _ _ _ _ _ _ _ _ _ G__law_sizes (hr.mono (by decide)) (by rfl) T.m__law_sizes T.F__law_sizes.kp T.b__law_sizes .nil pass0 (@pa_c _ _ _ _ _ (@pv _ 0 _ _ (by rfl) (by first | exact Or.inl rfl | exact Or.inr (Or.inl rfl) | exact Or.inr (Or.inr rfl)) (by decide) (by decide)) (@pa_nil _) (by rfl)) (by decide) (by rfl) (by rfl)) (by rfl) (by first | exact .inl rfl | exact .inr rfl | assumption)) (@pss_cons _ _ _ _ _ (@ps_set _ _ (2) _ _ _ _ c_law.nd rfl (Or.inl rfl) (@pe_callTy _ _ _ _ _ _ _ _ _ call_nList (by rfl) T.z_list (by decide +kernel) (@pa_c _ _ _ _ _ (@pv _ 1 _ _ (by rfl) (by first | exact Or.inl rfl | exact Or.inr (Or.inl rfl) | exact Or.inr (Or.inr rfl)) (by decide) (by decide)) (@pa_nil _) (by rfl)) (by decide) (by decide) (by rfl) (by rfl)) (by rfl) (by first | exact .inl rfl | exact .inr rfl | assumption)) (@pss_cons _ _ _ _ _ (@ps_set _ _ (3) _ _ _ _ c_law.nd rfl (Or.inl rfl) (@pe_call _ _ _ _ _ _ _ _ _ _ _ _ _ _ _ _ G__law_count (hr.mono (by decide)) (by rfl) T.m__law_count T.F__law_count.kp T.b__law_count .nil pass0 (@pa_c _ _ _ _ _ (@pv _ 1 _ _ (by rfl) (by first | exact Or.inl rfl | exact Or.inr (Or.inl rfl) | exact Or.inr (Or.inr rfl)) (by decide) (by decide)) (@pa_nil _) (by rfl)) (by decide) (by rfl) (by rfl)) (by rfl) (by first | exact .inl rfl | exact .inr rfl | assumption)) (@pss_cons _ _ _ _ _ (@ps_if _ _ _ _ _ _ _ _ (@pt_cmpR _ _ _ _ _ _ _ _ op_gt (@pv _ 3 _ _ (by rfl) (by first | exact Or.inl rfl | exact Or.inr (Or.inl rfl) | exact Or.inr (Or.inr rfl)) (by decide) (by decide)) (@pe_int _ _ _ _) (nomark _)) (@pss_one _ _ _ (@ps_ret _ _ _ _ (@pe_and _ _ _ _ _ _ _ (@pe_call _ _ _ _ _ _ _ _ _ _ _ _ _ _ _ _ G__law_refused (hr.mono (by decide)) (by rfl) T.m__law_refused T.F__law_refused.kp T.b__law_refused .nil pass0 (@pa_c _ _ _ _ _ (@pv _ 2 _ _ (by rfl) (by first | exact Or.inl rfl | exact Or.inr (Or.inl rfl) | exact Or.inr (Or.inr rfl)) (by decide) (by decide)) (@pa_c _ _ _ _ _ (@pv _ 3 _ _ (by rfl) (by first | exact Or.inl rfl | exact Or.inr (Or.inl rfl) | exact Or.inr (Or.inr rfl)) (by decide) (by decide)) (@pa_nil _) (by rfl)) (by rfl)) (by decide) (by rfl) (by rfl)) (@pe_one _ _ _ _ _ (@pe_cmpR _ _ _ _ _ _ _ _ (op_qEq hr.units) (@pv _ 2 _ _ (by rfl) (by first | exact Or.inl rfl | exact Or.inr (Or.inl rfl) | exact Or.inr (Or.inr rfl)) (by decide) (by decide)) (@pv _ 1 _ _ (by rfl) (by first | exact Or.inl rfl | exact Or.inr (Or.inl rfl) | exact Or.inr (Or.inr rfl)) (by decide) (by decide)) (nomark _)))))) (@pss_nil _)) (@pss_cons _ _ _ _ _ (@ps_set _ _ (4) _ _ _ _ c_law.nd rfl (Or.inl rfl) (@pe_call _ _ _ _ _ _ _ _ _ _ _ _ _ _ _ _ G__law_all (hr.mono (by decide)) (by rfl) T.m__law_all T.F__law_all.kp T.b__law_all .nil pass0 (@pa_c _ _ _ _ _ (@pv _ 1 _ _ (by rfl) (by first | exact Or.inl rfl | exact Or.inr (Or.inl rfl) | exact Or.inr (Or.inr rfl)) (by decide) (by decide)) (@pa_nil _) (by rfl)) (by decide) (by rfl) (by rfl)) (by rfl) (by first | exact .inl rfl | exact .inr rfl | assumption)) (@pss_cons _ _ _ _ _ (@ps_set _ _ (5) _ _ _ _ c_law.nd rfl (Or.inl rfl) (@pe_call _ _ _ _ _ _ _ _ _ _ _ _ _ _ _ _ G_places (hr.mono (by decide)) (by rfl) T.m_places T.F_places.kp T.b_places .nil pass1 (@pa_c _ _ _ _ _ (@pv _ 2 _ _ (by rfl) (by first | exact Or.inl rfl | exact Or.inr (Or.inl rfl) | exact Or.inr (Or.inr rfl)) (by decide) (by decide)) (@pa_nil _) (by rfl)) (by decide) (by rfl) (by rfl)) (by rfl) (by first | exact .inl rfl | exact .inr rfl | assumption)) (@pss_cons _ _ _ _ _ (@ps_if _ _ _ _ _ _ _ _ (PW.pt (@pw_or _ _ _ _ _ _ _ (@pt_not _ _ _ _ (@pt_val _ _ _ (@pe_call _ _ _ _ _ _ _ _ _ _ _ _ _ _ _ _ G__law_right (hr.mono (by decide)) (by rfl) T.m__law_right T.F__law_right.kp T.b__law_right .nil pass0 (@pa_c _ _ _ _ _ (@pv _ 5 _ _ (by rfl) (by first | exact Or.inl rfl | exact Or.inr (Or.inl rfl) | exact Or.inr (Or.inr rfl)) (by decide) (by decide)) (@pa_c _ _ _ _ _ (@pv _ 4 _ _ (by rfl) (by first | exact Or.inl rfl | exact Or.inr (Or.inl rfl) | exact Or.inr (Or.inr rfl)) (by decide) (by decide)) (@pa_nil _) (by rfl)) (by rfl)) (by decide) (by rfl) (by rfl)) (by intros; rfl))) (@pw_or1 _ _ _ _ (@pt_cmpR _ _ _ _ _ _ _ _ (op_qNe hr.units) (@pv _ 2 _ _ (by rfl) (by first | exact Or.inl rfl | exact Or.inr (Or.inl rfl) | exact Or.inr (Or.inr rfl)) (by decide) (by decide)) (@pv _ 1 _ _ (by rfl) (by first | exact Or.inl rfl | exact Or.inr (Or.inl rfl) | exact Or.inr (Or.inr rfl)) (by decide) (by decide)) (nomark _))))) (@pss_one _ _ _ (@ps_ret _ _ _ _ (@pe_bl _ _ _ _))) (@pss_nil _)) (@pss_cons _ _ _ _ _ (@ps_expr _ _ _ _ (@pe_bm _ _ _ _ _ _ _ _ _ _ _ _ PySem.F.plainAttrs_list PySem.F.slot_list_append PySem.F.type_list_append mt_append (@pv _ 5 _ _ (by rfl) (by first | exact Or.inl rfl | exact Or.inr (Or.inl rfl) | exact Or.inr (Or.inr rfl)) (by decide) (by decide)) (@pa_c _ _ _ _ _ (@pe_qTup _ _ _ _ _ (@pa_nil _)) (@pa_nil _) (by rfl)) (by rfl) (by rfl) (by rfl) (by rfl) (by rfl)) (by rfl)) (@pss_cons _ _ _ _ _ (@ps_asg _ _ _ _ _ _ (@pe_non _ _ _) (@pg_sub _ _ _ _ _ _ _ (@pv _ 5 _ _ (by rfl) (by first | exact Or.inl rfl | exact Or.inr (Or.inl rfl) | exact Or.inr (Or.inr rfl)) (by decide) (by decide)) (@pe_int _ _ _ _) set_list (by intros; rfl)) (by rfl) (by rfl) (by rfl)) (@pss_cons _ _ _ _ _ (@ps_expr _ _ _ _ (@pe_bm _ _ _ _ _ _ _ _ _ _ _ _ PySem.F.plainAttrs_list PySem.F.slot_list_append PySem.F.type_list_append mt_append (@pv _ 2 _ _ (by rfl) (by first | exact Or.inl rfl | exact Or.inr (Or.inl rfl) | exact Or.inr (Or.inr rfl)) (by decide) (by decide)) (@pa_c _ _ _ _ _ (@pe_int _ _ _ _) (@pa_nil _) (by rfl)) (by rfl) (by rfl) (by rfl) (by rfl) (by rfl)) (by rfl)) (@pss_one _ _ _ (@ps_ret _ _ _ _ (@pe_call _ _ _ _ _ _ _ _ _ _ _ _ _ _ _ _ G__law_right (hr.mono (by decide)) (by rfl) T.m__law_right T.F__law_right.kp T.b__law_right .nil pass0 (@pa_c _ _ _ _ _ (@pe_call _ _ _ _ _ _ _ _ _ _ _ _ _ _ _ _ G_places (hr.mono (by decide)) (by rfl) T.m_places T.F_places.kp T.b_places .nil pass1 (@pa_c _ _ _ _ _ (@pe_callTy _ _ _ _ _ _ _ _ _ call_nList (by rfl) T.z_list (by decide +kernel) (@pa_c _ _ _ _ _ (@pv _ 1 _ _ (by rfl) (by first | exact Or.inl rfl | exact Or.inr (Or.inl rfl) | exact Or.inr (Or.inr rfl)) (by decide) (by decide)) (@pa_nil _) (by rfl)) (by decide) (by decide) (by rfl) (by rfl)) (@pa_nil _) (by rfl)) (by decide) (by rfl) (by rfl)) (@pa_c _ _ _ _ _ (@pv _ 4 _ _ (by rfl) (by first | exact Or.inl rfl | exact Or.inr (Or.inl rfl) | exact Or.inr (Or.inr rfl)) (by decide) (by decide)) (@pa_nil _) (by rfl)) (by rfl)) (by decide) (by rfl) (by rfl)))))))))))))), ?_⟩
    rw [show start ["_law_script", "_law_sizes_here", "_law_handed", "_law_count_here", "_law_due", "_law_found"] [.ref a] = [some (.ref a), none, none, none, none, none] from rfl]
    clear G__law_sizes G__law_count G__law_refused G__law_all G_places G__law_right
    simp_all (failIfUnchanged := false) only [and_true]
    rw [c_spSizes]
    refine ⟨rfl, hS, hl, fun ms r H1 e1 h1 hs => ?_⟩
    have hl8 := hs.1
    simp_all (failIfUnchanged := false) only [and_true]
    intro q2 H2 hq2 e2 h2
    have h1_2 := e2.at h1
    have hrq : r ≠ q2 := fun z => by rw [z, hq2] at h1; cases h1
    simp_all (failIfUnchanged := false) only [↓c_spLCount, ↓m_kSz, ↓x_kCnt]
    by_cases hg : 4096 < prodL ms
    · simp_all (failIfUnchanged := false) only [and_true]
      rw [c_spRefused]
      refine ⟨ms, h2, hs, rfl, hg, fun H3 e3 => ?_⟩
      have h1_3 := e3.at h1_2
      have h2_3 := e3.at h2
      have k' := k H3
      clear k
      simp_all (failIfUnchanged := false) only [and_true]
    · simp_all (failIfUnchanged := false) only [and_true]
      rw [c_spAll]
      refine ⟨ms, h1_2, hs, by omega, fun rd H3 e3 td => ?_⟩
      have h1_3 := e3.at h1_2
      have h2_3 := e3.at h2
      have hng : ¬ 4096 < prodL ms := hg
      simp_all (failIfUnchanged := false) only [↓c_spPlaces, ↓m_kSz]
      rw [x_kAllP]
      refine ⟨fun _ D H4 hD e4 tf => ?_, fun h => absurd h hng⟩
      have h1_4 := e4.at h1_3
      have h2_4 := e4.at h2_3
      have td4 := td.ext e4
      simp_all (failIfUnchanged := false) only [and_true]
      rw [c_spRight]
      have hrl : (rowsL ms).length ≤ 4096 := by rw [rowsL_len]; omega
      refine ⟨rowsL ms, tf, td4, hrl, ?_⟩
      simp_all (failIfUnchanged := false) only [and_true]
      obtain ⟨ys, hDf, al⟩ := tf
      have hll : ys.length < sizeLine := lt5000 (by rw [al.1]; omega)
      have hne : 0 < ys.length := by
        rw [al.1, rowsL_len]
        have := hs.prod.1
        omega
      have hrD : r ≠ D := ne_of_none h1_3 hD
      have hqD : q2 ≠ D := ne_of_none h2_3 hD
      have hdD : rd ≠ D := by obtain ⟨_, z, _⟩ := td; exact ne_of_none z hD
      have hdq : rd ≠ q2 := td.ne (by rw [rowsL_len]; have := hs.prod.1; omega) h2_3
      clear hD h1 h1_2 h1_3 h2 h2_3 td e4 e3
      simp_all (failIfUnchanged := false) only [and_true]
      intro q5 H5 _ e5 h5
      have hD5 := e5.at hDf
      have h1_5 := e5.at h1_4
      have h2_5 := e5.at h2_4
      have td5 := td4.ext e5
      clear hDf h1_4 h2_4 td4 e5 h5 al
      have hix : ixN (ys ++ [V.ref q5]).length 0 = some 0 := by
        unfold ixN
        rw [if_pos (by decide), if_pos (by rw [List.length_append]; simp)]
        rfl
      have hix' : ixN (ys.length + 1) 0 = some 0 := by rw [← hix, List.length_append]; rfl
      simp_all (failIfUnchanged := false) only [and_true]
      have h1_6 : (upd H5 D (HO.lst ((ys ++ [V.ref q5]).set 0 V.non))) r = some (.lst (ms.map V.int)) := by rw [upd_ne hrD]; exact h1_5
      have h2_6 : (upd H5 D (HO.lst ((ys ++ [V.ref q5]).set 0 V.non))) q2 = some (.lst (ms.map V.int)) := by rw [upd_ne hqD]; exact h2_5
      have td6 : TupsAt (upd H5 D (HO.lst ((ys ++ [V.ref q5]).set 0 V.non))) rd (rowsL ms) := td5.upd hD5 hdD
      generalize upd H5 D (HO.lst ((ys ++ [V.ref q5]).set 0 V.non)) = H6 at h1_6 h2_6 td6
      clear h1_5 h2_5 td5 hD5
      have hm8 : ms.length < sizeLine := lt5000 (by omega)
      simp_all (failIfUnchanged := false) only [and_true]
      have h1_7 : (upd H6 q2 (HO.lst (ms.map V.int ++ [V.int 2]))) r = some (.lst (ms.map V.int)) := by rw [upd_ne hrq]; exact h1_6
      have td7 : TupsAt (upd H6 q2 (HO.lst (ms.map V.int ++ [V.int 2]))) rd (rowsL ms) := td6.upd h2_6 hdq
      generalize upd H6 q2 (HO.lst (ms.map V.int ++ [V.int 2])) = H7 at h1_7 td7
      clear h1_6 h2_6 td6
      simp_all (failIfUnchanged := false) only [and_true]
      intro q8 H8 _ e8 h8
      have td8 := td7.ext e8
      simp_all (failIfUnchanged := false) only [↓c_spPlaces, ↓m_kSz]
      rw [x_kAllP]
      refine ⟨fun _ D9 H9 _ e9 tf9 => ?_, fun h => absurd h hng⟩
      simp_all (failIfUnchanged := false) only [and_true]
      rw [c_spRight]
      exact ⟨rowsL ms, tf9, td8.ext e9, hrl, k H9⟩

end
theorem all_mk {l : PySem.W.OpenLaw} {w : World} {K : PySem.W.Frag} {h : Heap} {mg : Str → Option Value} {fa : Addr} (X : K.In h) (G : h.Ns mainGlobals mg) (hfa : mg "law" = some (.ref fa))
    {C0 : Addr} (y0 : PySem.W.nsIn K mainGlobals "PaceError" = some (some (.ref C0)))
    {C1 : Addr} (y1 : PySem.W.nsIn K mainGlobals "NoPlace" = some (some (.ref C1)))
    {C2 : Addr} (y2 : PySem.W.nsIn K mainGlobals "NoCells" = some (some (.ref C2)))
    {C3 : Addr} (y3 : PySem.W.nsIn K mainGlobals "TooMany" = some (some (.ref C3)))
    (x_TooMany_TooMany : PySem.W.exmOne K (.ref C3) (.ref C3) = some true)
    (x_TooMany_PaceError : PySem.W.exmOne K (.ref C3) (.ref C0) = some true)
    (ocs : PySem.W.specialIn K (.builtin "object.__class__") "__get__" = some (some (.builtin "getset_descriptor.__get__")))
    (oct : PySem.W.takesIn K (.builtin "object.__class__") = some true)
    (ga_TooMany : PySem.W.findIn K (.ref C3) "__getattribute__" = some (some (.builtin "BaseException.__getattribute__")))
    (gn_TooMany : PySem.W.findIn K (.ref C3) "__getattr__" = some none)
    (mb_TooMany : PySem.W.mroIn K C3 (.type "BaseException") = some true)
    (mo_TooMany : PySem.W.mroIn K C3 (.type "object") = some true)
    (fc_TooMany : PySem.W.findIn K (.ref C3) "__class__" = some (some (.builtin "object.__class__")))
    (hd_TooMany : PySem.W.hasDictIn K C3 = true)
    (kc_TooMany_NoPlace : PySem.W.hasDictIn K C1 = true)
    (kt_TooMany_NoPlace : PySem.W.typeIn K (.ref C1) = some (.type "type"))
    (ks_TooMany_NoPlace : PySem.W.subIn K (.ref C3) (.ref C1) = some false)
    (kn_TooMany_NoPlace : (C3 == C1) = false)
    (kc_TooMany_NoCells : PySem.W.hasDictIn K C2 = true)
    (kt_TooMany_NoCells : PySem.W.typeIn K (.ref C2) = some (.type "type"))
    (ks_TooMany_NoCells : PySem.W.subIn K (.ref C3) (.ref C2) = some false)
    (kn_TooMany_NoCells : (C3 == C2) = false)
    (ks_TooMany_ValueError : PySem.W.subIn K (.ref C3) (.type "ValueError") = some true)
    {f0 : Addr} {od0 an0 : Option Addr} {sl0 : Array (Option Value)} {oc0 kV0 dc0 pm0 cd0 ct0 : Value}
    (l0 : K.lookup f0 = some ⟨oc0, od0, .func (PySem.W.fnOf "__init__" "TooMany.__init__" (defArgs s_TooMany___init__) (defBody s_TooMany___init__) (defScope s_TooMany___init__) .none kV0 dc0 pm0 an0 cd0 ct0), sl0⟩) 
    (c0 : PySem.W.codeIn K cd0 "TooMany.__init__" = true) (k0 : PySem.W.keepIn K (.ref f0) = true)
    {f1 : Addr} {od1 an1 : Option Addr} {sl1 : Array (Option Value)} {oc1 kV1 dc1 pm1 cd1 ct1 : Value}
    (a1 : PySem.W.nsIn K mainGlobals "count_of" = some (some (.ref f1))) (l1 : K.lookup f1 = some ⟨oc1, od1, .func (PySem.W.fnOf "count_of" "count_of" (defArgs s_count_of) (defBody s_count_of) (defScope s_count_of) .none kV1 dc1 pm1 an1 cd1 ct1), sl1⟩) 
    (c1 : PySem.W.codeIn K cd1 "count_of" = true) (k1 : PySem.W.keepIn K (.ref f1) = true)
    {f2 : Addr} {od2 an2 : Option Addr} {sl2 : Array (Option Value)} {oc2 kV2 dc2 pm2 cd2 ct2 : Value}
    (a2 : PySem.W.nsIn K mainGlobals "split_number" = some (some (.ref f2))) (l2 : K.lookup f2 = some ⟨oc2, od2, .func (PySem.W.fnOf "split_number" "split_number" (defArgs s_split_number) (defBody s_split_number) (defScope s_split_number) .none kV2 dc2 pm2 an2 cd2 ct2), sl2⟩) 
    (c2 : PySem.W.codeIn K cd2 "split_number" = true) (k2 : PySem.W.keepIn K (.ref f2) = true)
    {f3 : Addr} {od3 an3 : Option Addr} {sl3 : Array (Option Value)} {oc3 kV3 dc3 pm3 cd3 ct3 : Value}
    (a3 : PySem.W.nsIn K mainGlobals "refuse_long" = some (some (.ref f3))) (l3 : K.lookup f3 = some ⟨oc3, od3, .func (PySem.W.fnOf "refuse_long" "refuse_long" (defArgs s_refuse_long) (defBody s_refuse_long) (defScope s_refuse_long) .none kV3 dc3 pm3 an3 cd3 ct3), sl3⟩) 
    (c3 : PySem.W.codeIn K cd3 "refuse_long" = true) (k3 : PySem.W.keepIn K (.ref f3) = true)
    {f4 : Addr} {od4 an4 : Option Addr} {sl4 : Array (Option Value)} {oc4 kV4 dc4 pm4 cd4 ct4 : Value}
    (a4 : PySem.W.nsIn K mainGlobals "places" = some (some (.ref f4))) (l4 : K.lookup f4 = some ⟨oc4, od4, .func (PySem.W.fnOf "places" "places" (defArgs s_places) (defBody s_places) (defScope s_places) .none kV4 dc4 pm4 an4 cd4 ct4), sl4⟩) 
    (c4 : PySem.W.codeIn K cd4 "places" = true) (k4 : PySem.W.keepIn K (.ref f4) = true)
    {f5 : Addr} {od5 an5 : Option Addr} {sl5 : Array (Option Value)} {oc5 kV5 dc5 pm5 cd5 ct5 : Value}
    (a5 : PySem.W.nsIn K mainGlobals "_law_draw" = some (some (.ref f5))) (l5 : K.lookup f5 = some ⟨oc5, od5, .func (PySem.W.fnOf "_law_draw" "_law_draw" (defArgs s__law_draw) (defBody s__law_draw) (defScope s__law_draw) .none kV5 dc5 pm5 an5 cd5 ct5), sl5⟩) 
    (c5 : PySem.W.codeIn K cd5 "_law_draw" = true) (k5 : PySem.W.keepIn K (.ref f5) = true)
    {f6 : Addr} {od6 an6 : Option Addr} {sl6 : Array (Option Value)} {oc6 kV6 dc6 pm6 cd6 ct6 : Value}
    (a6 : PySem.W.nsIn K mainGlobals "_law_whole" = some (some (.ref f6))) (l6 : K.lookup f6 = some ⟨oc6, od6, .func (PySem.W.fnOf "_law_whole" "_law_whole" (defArgs s__law_whole) (defBody s__law_whole) (defScope s__law_whole) .none kV6 dc6 pm6 an6 cd6 ct6), sl6⟩) 
    (c6 : PySem.W.codeIn K cd6 "_law_whole" = true) (k6 : PySem.W.keepIn K (.ref f6) = true)
    {f7 : Addr} {od7 an7 : Option Addr} {sl7 : Array (Option Value)} {oc7 kV7 dc7 pm7 cd7 ct7 : Value}
    (a7 : PySem.W.nsIn K mainGlobals "_law_great" = some (some (.ref f7))) (l7 : K.lookup f7 = some ⟨oc7, od7, .func (PySem.W.fnOf "_law_great" "_law_great" (defArgs s__law_great) (defBody s__law_great) (defScope s__law_great) .none kV7 dc7 pm7 an7 cd7 ct7), sl7⟩) 
    (c7 : PySem.W.codeIn K cd7 "_law_great" = true) (k7 : PySem.W.keepIn K (.ref f7) = true)
    {f8 : Addr} {od8 an8 : Option Addr} {sl8 : Array (Option Value)} {oc8 kV8 dc8 pm8 cd8 ct8 : Value}
    (a8 : PySem.W.nsIn K mainGlobals "_law_sizes" = some (some (.ref f8))) (l8 : K.lookup f8 = some ⟨oc8, od8, .func (PySem.W.fnOf "_law_sizes" "_law_sizes" (defArgs s__law_sizes) (defBody s__law_sizes) (defScope s__law_sizes) .none kV8 dc8 pm8 an8 cd8 ct8), sl8⟩) 
    (c8 : PySem.W.codeIn K cd8 "_law_sizes" = true) (k8 : PySem.W.keepIn K (.ref f8) = true)
    {f9 : Addr} {od9 an9 : Option Addr} {sl9 : Array (Option Value)} {oc9 kV9 dc9 pm9 cd9 ct9 : Value}
    (a9 : PySem.W.nsIn K mainGlobals "_law_count" = some (some (.ref f9))) (l9 : K.lookup f9 = some ⟨oc9, od9, .func (PySem.W.fnOf "_law_count" "_law_count" (defArgs s__law_count) (defBody s__law_count) (defScope s__law_count) .none kV9 dc9 pm9 an9 cd9 ct9), sl9⟩) 
    (c9 : PySem.W.codeIn K cd9 "_law_count" = true) (k9 : PySem.W.keepIn K (.ref f9) = true)
    {f10 : Addr} {od10 an10 : Option Addr} {sl10 : Array (Option Value)} {oc10 kV10 dc10 pm10 cd10 ct10 : Value}
    (a10 : PySem.W.nsIn K mainGlobals "_law_all" = some (some (.ref f10))) (l10 : K.lookup f10 = some ⟨oc10, od10, .func (PySem.W.fnOf "_law_all" "_law_all" (defArgs s__law_all) (defBody s__law_all) (defScope s__law_all) .none kV10 dc10 pm10 an10 cd10 ct10), sl10⟩) 
    (c10 : PySem.W.codeIn K cd10 "_law_all" = true) (k10 : PySem.W.keepIn K (.ref f10) = true)
    {f11 : Addr} {od11 an11 : Option Addr} {sl11 : Array (Option Value)} {oc11 kV11 dc11 pm11 cd11 ct11 : Value}
    (a11 : PySem.W.nsIn K mainGlobals "_law_right" = some (some (.ref f11))) (l11 : K.lookup f11 = some ⟨oc11, od11, .func (PySem.W.fnOf "_law_right" "_law_right" (defArgs s__law_right) (defBody s__law_right) (defScope s__law_right) .none kV11 dc11 pm11 an11 cd11 ct11), sl11⟩) 
    (c11 : PySem.W.codeIn K cd11 "_law_right" = true) (k11 : PySem.W.keepIn K (.ref f11) = true)
    {f12 : Addr} {od12 an12 : Option Addr} {sl12 : Array (Option Value)} {oc12 kV12 dc12 pm12 cd12 ct12 : Value}
    (a12 : PySem.W.nsIn K mainGlobals "_law_refused" = some (some (.ref f12))) (l12 : K.lookup f12 = some ⟨oc12, od12, .func (PySem.W.fnOf "_law_refused" "_law_refused" (defArgs s__law_refused) (defBody s__law_refused) (defScope s__law_refused) .none kV12 dc12 pm12 an12 cd12 ct12), sl12⟩) 
    (c12 : PySem.W.codeIn K cd12 "_law_refused" = true) (k12 : PySem.W.keepIn K (.ref f12) = true)
    {f13 : Addr} {od13 an13 : Option Addr} {sl13 : Array (Option Value)} {oc13 kV13 dc13 pm13 cd13 ct13 : Value}
    (a13 : PySem.W.nsIn K mainGlobals "law" = some (some (.ref f13))) (l13 : K.lookup f13 = some ⟨oc13, od13, .func (PySem.W.fnOf "law" "law" (defArgs s_law) (defBody s_law) (defScope s_law) .none kV13 dc13 pm13 an13 cd13 ct13), sl13⟩) 
    (c13 : PySem.W.codeIn K cd13 "law" = true) (k13 : PySem.W.keepIn K (.ref f13) = true)
    (fi_TooMany : PySem.W.findIn K (.ref C3) "__init__" = some (some (.ref f0)))
    (xe_TooMany : excInI K C3 f0 [.type "ValueError", .type "Exception", .type "BaseException", .type "object"] "ValueError.__new__" = true)
    (xf_TooMany : PySem.W.typeIn K (.ref f0) = some (.type "function"))
    (xo_TooMany : excOver K C3 = true)
    (xs_TooMany : PySem.W.findIn K (.ref C3) "__setattr__" = some (some (.builtin "object.__setattr__")))
    (xh_TooMany : PySem.W.hasDictIn K C3 = true)
    (nt_TooMany_number : PySem.W.takerIn K C3 "number" = some none)
    (nf_TooMany_number : PySem.W.findIn K (.ref C3) "number" = some none)
    (bs_PaceError : PySem.W.specialIn K (.ref C0) "__getattribute__" = some (some (.builtin "type.__getattribute__")))
    (br_PaceError : PySem.W.readsIn K C0 (.type "type") = true)
    (bf_PaceError : PySem.W.findCls K (.ref C0) (.type "type") "__init__" = some (.val (.builtin "ValueError.__init__")))
    {tk0 : Tok} (w0 : PySem.W.nsIn K mainGlobals "MOST_TOLD" = some (some (.int 4096 tk0)))
    (z0 : PySem.W.nsIn K mainGlobals "ValueError" = some none)
    (z1 : PySem.W.nsIn K mainGlobals "bool" = some none)
    (z2 : PySem.W.nsIn K mainGlobals "int" = some none)
    (z3 : PySem.W.nsIn K mainGlobals "isinstance" = some none)
    (z4 : PySem.W.nsIn K mainGlobals "len" = some none)
    (z5 : PySem.W.nsIn K mainGlobals "list" = some none)
    (z6 : PySem.W.nsIn K mainGlobals "range" = some none)
    (z7 : PySem.W.nsIn K mainGlobals "reversed" = some none)
    (z8 : PySem.W.nsIn K mainGlobals "tuple" = some none)
    : ∃ fd : FuncData, (∀ (s : Shared) (v : Value), BindsTo s fd ⟨[v], []⟩ [("_law_script", v)]) ∧ ∀ base : Heap, K.In base → base.Ns mainGlobals mg → FnOk l.prog w K mg base CX0 6 fa fd ["_law_script"] (spLaw K) := by
  have e := hfa.symm.trans (PySem.W.mg_of X G a13)
  cases e
  have F0 := fun_mk (st := s_TooMany___init__) l0 c0 k0
  have F1 := fun_mk (st := s_count_of) l1 c1 k1
  have F2 := fun_mk (st := s_split_number) l2 c2 k2
  have F3 := funX_mk (st := s_refuse_long) l3 c3 k3
  have F4 := funX_mk (st := s_places) l4 c4 k4
  have F5 := fun_mk (st := s__law_draw) l5 c5 k5
  have F6 := fun_mk (st := s__law_whole) l6 c6 k6
  have F7 := fun_mk (st := s__law_great) l7 c7 k7
  have F8 := fun_mk (st := s__law_sizes) l8 c8 k8
  have F9 := fun_mk (st := s__law_count) l9 c9 k9
  have F10 := fun_mk (st := s__law_all) l10 c10 k10
  have F11 := fun_mk (st := s__law_right) l11 c11 k11
  have F12 := fun_mk (st := s__law_refused) l12 c12 k12
  have F13 := fun_mk (st := s_law) l13 c13 k13
  have T : Tx K mg ⟨C0, C1, C2, C3, f0, _, f1, _, f2, _, f3, _, f4, _, f5, _, f6, _, f7, _, f8, _, f9, _, f10, _, f11, _, f12, _, fa, _⟩ := ⟨PySem.W.mg_of X G y0, PySem.W.mg_of X G y1, PySem.W.mg_of X G y2, PySem.W.mg_of X G y3, x_TooMany_TooMany, x_TooMany_PaceError, ocs, oct, ga_TooMany, gn_TooMany, mb_TooMany, mo_TooMany, fc_TooMany, hd_TooMany, kc_TooMany_NoPlace, kt_TooMany_NoPlace, ks_TooMany_NoPlace, kn_TooMany_NoPlace, kc_TooMany_NoCells, kt_TooMany_NoCells, ks_TooMany_NoCells, kn_TooMany_NoCells, ks_TooMany_ValueError, ⟨_, PySem.W.mg_of X G w0⟩, ⟨xe_TooMany, xf_TooMany, ⟨xo_TooMany, xs_TooMany, xh_TooMany⟩⟩, nt_TooMany_number, nf_TooMany_number, ⟨bs_PaceError, br_PaceError, bf_PaceError⟩, F0, F0.binds (ps := ["self", "number"]) (fun _ _ _ _ _ _ us hl => match us, hl with | [_, _], _ => rfl), F1, PySem.W.mg_of X G a1, F1.binds (ps := ["sizes"]) (fun _ _ _ _ _ _ us hl => match us, hl with | [_], _ => rfl), F2, PySem.W.mg_of X G a2, F2.binds (ps := ["sizes", "number"]) (fun _ _ _ _ _ _ us hl => match us, hl with | [_, _], _ => rfl), F3, PySem.W.mg_of X G a3, Binds.all (fun us hl => match us, hl with | [_], _ => rfl), F4, PySem.W.mg_of X G a4, Binds.all (fun us hl => match us, hl with | [_], _ => rfl), F5, PySem.W.mg_of X G a5, F5.binds (ps := ["_law_script", "_law_k", "_law_many"]) (fun _ _ _ _ _ _ us hl => match us, hl with | [_, _, _], _ => rfl), F6, PySem.W.mg_of X G a6, F6.binds (ps := ["_law_found"]) (fun _ _ _ _ _ _ us hl => match us, hl with | [_], _ => rfl), F7, PySem.W.mg_of X G a7, F7.binds (ps := ["_law_script", "_law_way"]) (fun _ _ _ _ _ _ us hl => match us, hl with | [_, _], _ => rfl), F8, PySem.W.mg_of X G a8, F8.binds (ps := ["_law_script"]) (fun _ _ _ _ _ _ us hl => match us, hl with | [_], _ => rfl), F9, PySem.W.mg_of X G a9, F9.binds (ps := ["_law_sizes_here"]) (fun _ _ _ _ _ _ us hl => match us, hl with | [_], _ => rfl), F10, PySem.W.mg_of X G a10, F10.binds (ps := ["_law_sizes_here"]) (fun _ _ _ _ _ _ us hl => match us, hl with | [_], _ => rfl), F11, PySem.W.mg_of X G a11, F11.binds (ps := ["_law_found", "_law_due"]) (fun _ _ _ _ _ _ us hl => match us, hl with | [_, _], _ => rfl), F12, PySem.W.mg_of X G a12, F12.binds (ps := ["_law_sizes_here", "_law_count_here"]) (fun _ _ _ _ _ _ us hl => match us, hl with | [_, _], _ => rfl), F13, PySem.W.mg_of X G a13, F13.binds (ps := ["_law_script"]) (fun _ _ _ _ _ _ us hl => match us, hl with | [_], _ => rfl), PySem.W.mg_none_of X G z0, PySem.W.mg_none_of X G z1, PySem.W.mg_none_of X G z2, PySem.W.mg_none_of X G z3, PySem.W.mg_none_of X G z4, PySem.W.mg_none_of X G z5, PySem.W.mg_none_of X G z6, PySem.W.mg_none_of X G z7, PySem.W.mg_none_of X G z8⟩
  exact ⟨PySem.W.fnOf "law" "law" (defArgs s_law) (defBody s_law) (defScope s_law) .none kV13 dc13 pm13 an13 cd13 ct13, fun s v => .of_eq rfl, fun base _ _ => ok_law T⟩
theorem walk {l : PySem.W.OpenLaw} {q : Program} {loose : List Str} {XP : (Str → Option Value) → Heap → Prop} {YP : World → Heap → Prop} {d : DefRec} {K : Params → PySem.W.Frag} (hn : l.most = some 63) (hdf : d.params.defaults = [])
    (hY : ∀ (w : World) (h : Heap), YP w h → (K w.params).In h)
    (F : ∀ (w : World) (mg : Str → Option Value) (fa : Addr) (h : Heap), (K w.params).In h → h.Ns mainGlobals mg → mg d.name = some (.ref fa) →
      ∃ fd : FuncData, (∀ (s : Shared) (u : Value), BindsTo s fd ⟨[u], []⟩ [("_law_script", u)]) ∧ ∀ base : Heap, (K w.params).In base → base.Ns mainGlobals mg → FnOk l.prog w (K w.params) mg base CX0 6 fa fd ["_law_script"] (spLaw (K w.params))) :
    PySem.W.WalkO q loose XP YP l.row.toRowW d [] (fun f vs => PySem.call f vs) :=
  L2.walk_of (n := 63) (k := 6) (x := "_law_script") (CX := fun _ => CX0) (sp := fun w => spLaw (K w.params)) hn (by decide) hdf ⟨rfl, by decide, by decide⟩ hY F (fun _ _ a ns hl _ hS => ⟨a, rfl, ns, hS, hl, fun _ => rfl⟩) fun _ _ _ _ _ z => z
end PH
open PySem PySem.W PyProof.Rows
set_option maxRecDepth 100000 in
set_option maxHeartbeats 0 in
theorem PySem.Challenge.cw_pacehall_k13_all_places_holds : PySem.Challenge.rw_pacehall_k13_all_places.Holds := by
  w_on; o_law; k_head; (case hw => w_witness2)
  k_fill
  refine PH.walk (l := PySem.Challenge.rw_pacehall_k13_all_places) rfl rfl (fun w h Y => PySem.W.kIn_of Y) ?F
  case F =>
    intro w mg fa h KX G hmg
    refine' PH.all_mk KX G hmg ?y0 ?y1 ?y2 ?y3 ?x_TooMany_TooMany ?x_TooMany_PaceError ?ocs ?oct ?ga_TooMany ?gn_TooMany ?mb_TooMany ?mo_TooMany ?fc_TooMany ?hd_TooMany ?kc_TooMany_NoPlace ?kt_TooMany_NoPlace ?ks_TooMany_NoPlace ?kn_TooMany_NoPlace ?kc_TooMany_NoCells ?kt_TooMany_NoCells ?ks_TooMany_NoCells ?kn_TooMany_NoCells ?ks_TooMany_ValueError ?l0 ?c0 ?k0 ?a1 ?l1 ?c1 ?k1 ?a2 ?l2 ?c2 ?k2 ?a3 ?l3 ?c3 ?k3 ?a4 ?l4 ?c4 ?k4 ?a5 ?l5 ?c5 ?k5 ?a6 ?l6 ?c6 ?k6 ?a7 ?l7 ?c7 ?k7 ?a8 ?l8 ?c8 ?k8 ?a9 ?l9 ?c9 ?k9 ?a10 ?l10 ?c10 ?k10 ?a11 ?l11 ?c11 ?k11 ?a12 ?l12 ?c12 ?k12 ?a13 ?l13 ?c13 ?k13 ?fi_TooMany ?xe_TooMany ?xf_TooMany ?xo_TooMany ?xs_TooMany ?xh_TooMany ?nt_TooMany_number ?nf_TooMany_number ?bs_PaceError ?br_PaceError ?bf_PaceError ?w0 ?z0 ?z1 ?z2 ?z3 ?z4 ?z5 ?z6 ?z7 ?z8
    (case y0 => first | k_is | k_exc | kts_exm | decide | rfl | decide +kernel | kernel_rfl)
    (case y1 => first | k_is | k_exc | kts_exm | decide | rfl | decide +kernel | kernel_rfl)
    (case y2 => first | k_is | k_exc | kts_exm | decide | rfl | decide +kernel | kernel_rfl)
    (case y3 => first | k_is | k_exc | kts_exm | decide | rfl | decide +kernel | kernel_rfl)
    (case fi_TooMany => first | k_is | k_exc | kts_exm | decide | rfl | decide +kernel | kernel_rfl)
    (case x_TooMany_TooMany => first | k_is | k_exc | kts_exm | decide | rfl | decide +kernel | kernel_rfl)
    (case x_TooMany_PaceError => first | k_is | k_exc | kts_exm | decide | rfl | decide +kernel | kernel_rfl)
    (case ocs => first | k_is | k_exc | kts_exm | decide | rfl | decide +kernel | kernel_rfl)
    (case oct => first | k_is | k_exc | kts_exm | decide | rfl | decide +kernel | kernel_rfl)
    (case ga_TooMany => first | k_is | k_exc | kts_exm | decide | rfl | decide +kernel | kernel_rfl)
    (case gn_TooMany => first | k_is | k_exc | kts_exm | decide | rfl | decide +kernel | kernel_rfl)
    (case mb_TooMany => first | k_is | k_exc | kts_exm | decide | rfl | decide +kernel | kernel_rfl)
    (case mo_TooMany => first | k_is | k_exc | kts_exm | decide | rfl | decide +kernel | kernel_rfl)
    (case fc_TooMany => first | k_is | k_exc | kts_exm | decide | rfl | decide +kernel | kernel_rfl)
    (case hd_TooMany => first | k_is | k_exc | kts_exm | decide | rfl | decide +kernel | kernel_rfl)
    (case kc_TooMany_NoPlace => first | k_is | k_exc | kts_exm | decide | rfl | decide +kernel | kernel_rfl)
    (case kt_TooMany_NoPlace => first | k_is | k_exc | kts_exm | decide | rfl | decide +kernel | kernel_rfl)
    (case ks_TooMany_NoPlace => first | k_is | k_exc | kts_exm | decide | rfl | decide +kernel | kernel_rfl)
    (case kn_TooMany_NoPlace => first | k_is | k_exc | kts_exm | decide | rfl | decide +kernel | kernel_rfl)
    (case kc_TooMany_NoCells => first | k_is | k_exc | kts_exm | decide | rfl | decide +kernel | kernel_rfl)
    (case kt_TooMany_NoCells => first | k_is | k_exc | kts_exm | decide | rfl | decide +kernel | kernel_rfl)
    (case ks_TooMany_NoCells => first | k_is | k_exc | kts_exm | decide | rfl | decide +kernel | kernel_rfl)
    (case kn_TooMany_NoCells => first | k_is | k_exc | kts_exm | decide | rfl | decide +kernel | kernel_rfl)
    (case ks_TooMany_ValueError => first | k_is | k_exc | kts_exm | decide | rfl | decide +kernel | kernel_rfl)
    (case l0 => first | k_is | k_exc | kts_exm | decide | rfl | decide +kernel | kernel_rfl)
    (case c0 => first | k_is | k_exc | kts_exm | decide | rfl | decide +kernel | kernel_rfl)
    (case k0 => first | k_is | k_exc | kts_exm | decide | rfl | decide +kernel | kernel_rfl)
    (case a1 => first | k_is | k_exc | kts_exm | decide | rfl | decide +kernel | kernel_rfl)
    (case l1 => first | k_is | k_exc | kts_exm | decide | rfl | decide +kernel | kernel_rfl)
    (case c1 => first | k_is | k_exc | kts_exm | decide | rfl | decide +kernel | kernel_rfl)
    (case k1 => first | k_is | k_exc | kts_exm | decide | rfl | decide +kernel | kernel_rfl)
    (case a2 => first | k_is | k_exc | kts_exm | decide | rfl | decide +kernel | kernel_rfl)
    (case l2 => first | k_is | k_exc | kts_exm | decide | rfl | decide +kernel | kernel_rfl)
    (case c2 => first | k_is | k_exc | kts_exm | decide | rfl | decide +kernel | kernel_rfl)
    (case k2 => first | k_is | k_exc | kts_exm | decide | rfl | decide +kernel | kernel_rfl)
    (case a3 => first | k_is | k_exc | kts_exm | decide | rfl | decide +kernel | kernel_rfl)
    (case l3 => first | k_is | k_exc | kts_exm | decide | rfl | decide +kernel | kernel_rfl)
    (case c3 => first | k_is | k_exc | kts_exm | decide | rfl | decide +kernel | kernel_rfl)
    (case k3 => first | k_is | k_exc | kts_exm | decide | rfl | decide +kernel | kernel_rfl)
    (case a4 => first | k_is | k_exc | kts_exm | decide | rfl | decide +kernel | kernel_rfl)
    (case l4 => first | k_is | k_exc | kts_exm | decide | rfl | decide +kernel | kernel_rfl)
    (case c4 => first | k_is | k_exc | kts_exm | decide | rfl | decide +kernel | kernel_rfl)
    (case k4 => first | k_is | k_exc | kts_exm | decide | rfl | decide +kernel | kernel_rfl)
    (case a5 => first | k_is | k_exc | kts_exm | decide | rfl | decide +kernel | kernel_rfl)
    (case l5 => first | k_is | k_exc | kts_exm | decide | rfl | decide +kernel | kernel_rfl)
    (case c5 => first | k_is | k_exc | kts_exm | decide | rfl | decide +kernel | kernel_rfl)
    (case k5 => first | k_is | k_exc | kts_exm | decide | rfl | decide +kernel | kernel_rfl)
    (case a6 => first | k_is | k_exc | kts_exm | decide | rfl | decide +kernel | kernel_rfl)
    (case l6 => first | k_is | k_exc | kts_exm | decide | rfl | decide +kernel | kernel_rfl)
    (case c6 => first | k_is | k_exc | kts_exm | decide | rfl | decide +kernel | kernel_rfl)
    (case k6 => first | k_is | k_exc | kts_exm | decide | rfl | decide +kernel | kernel_rfl)
    (case a7 => first | k_is | k_exc | kts_exm | decide | rfl | decide +kernel | kernel_rfl)
    (case l7 => first | k_is | k_exc | kts_exm | decide | rfl | decide +kernel | kernel_rfl)
    (case c7 => first | k_is | k_exc | kts_exm | decide | rfl | decide +kernel | kernel_rfl)
    (case k7 => first | k_is | k_exc | kts_exm | decide | rfl | decide +kernel | kernel_rfl)
    (case a8 => first | k_is | k_exc | kts_exm | decide | rfl | decide +kernel | kernel_rfl)
    (case l8 => first | k_is | k_exc | kts_exm | decide | rfl | decide +kernel | kernel_rfl)
    (case c8 => first | k_is | k_exc | kts_exm | decide | rfl | decide +kernel | kernel_rfl)
    (case k8 => first | k_is | k_exc | kts_exm | decide | rfl | decide +kernel | kernel_rfl)
    (case a9 => first | k_is | k_exc | kts_exm | decide | rfl | decide +kernel | kernel_rfl)
    (case l9 => first | k_is | k_exc | kts_exm | decide | rfl | decide +kernel | kernel_rfl)
    (case c9 => first | k_is | k_exc | kts_exm | decide | rfl | decide +kernel | kernel_rfl)
    (case k9 => first | k_is | k_exc | kts_exm | decide | rfl | decide +kernel | kernel_rfl)
    (case a10 => first | k_is | k_exc | kts_exm | decide | rfl | decide +kernel | kernel_rfl)
    (case l10 => first | k_is | k_exc | kts_exm | decide | rfl | decide +kernel | kernel_rfl)
    (case c10 => first | k_is | k_exc | kts_exm | decide | rfl | decide +kernel | kernel_rfl)
    (case k10 => first | k_is | k_exc | kts_exm | decide | rfl | decide +kernel | kernel_rfl)
    (case a11 => first | k_is | k_exc | kts_exm | decide | rfl | decide +kernel | kernel_rfl)
    (case l11 => first | k_is | k_exc | kts_exm | decide | rfl | decide +kernel | kernel_rfl)
    (case c11 => first | k_is | k_exc | kts_exm | decide | rfl | decide +kernel | kernel_rfl)
    (case k11 => first | k_is | k_exc | kts_exm | decide | rfl | decide +kernel | kernel_rfl)
    (case a12 => first | k_is | k_exc | kts_exm | decide | rfl | decide +kernel | kernel_rfl)
    (case l12 => first | k_is | k_exc | kts_exm | decide | rfl | decide +kernel | kernel_rfl)
    (case c12 => first | k_is | k_exc | kts_exm | decide | rfl | decide +kernel | kernel_rfl)
    (case k12 => first | k_is | k_exc | kts_exm | decide | rfl | decide +kernel | kernel_rfl)
    (case a13 => first | k_is | k_exc | kts_exm | decide | rfl | decide +kernel | kernel_rfl)
    (case l13 => first | k_is | k_exc | kts_exm | decide | rfl | decide +kernel | kernel_rfl)
    (case c13 => first | k_is | k_exc | kts_exm | decide | rfl | decide +kernel | kernel_rfl)
    (case k13 => first | k_is | k_exc | kts_exm | decide | rfl | decide +kernel | kernel_rfl)
    (case xe_TooMany => first | k_is | k_exc | kts_exm | decide | rfl | decide +kernel | kernel_rfl)
    (case xf_TooMany => first | k_is | k_exc | kts_exm | decide | rfl | decide +kernel | kernel_rfl)
    (case xo_TooMany => first | k_is | k_exc | kts_exm | decide | rfl | decide +kernel | kernel_rfl)
    (case xs_TooMany => first | k_is | k_exc | kts_exm | decide | rfl | decide +kernel | kernel_rfl)
    (case xh_TooMany => first | k_is | k_exc | kts_exm | decide | rfl | decide +kernel | kernel_rfl)
    (case nt_TooMany_number => first | k_is | k_exc | kts_exm | decide | rfl | decide +kernel | kernel_rfl)
    (case nf_TooMany_number => first | k_is | k_exc | kts_exm | decide | rfl | decide +kernel | kernel_rfl)
    (case bs_PaceError => first | k_is | k_exc | kts_exm | decide | rfl | decide +kernel | kernel_rfl)
    (case br_PaceError => first | k_is | k_exc | kts_exm | decide | rfl | decide +kernel | kernel_rfl)
    (case bf_PaceError => first | k_is | k_exc | kts_exm | decide | rfl | decide +kernel | kernel_rfl)
    (case w0 => first | k_is | k_exc | kts_exm | decide | rfl | decide +kernel | kernel_rfl)
    (case z0 => first | k_is | k_exc | kts_exm | decide | rfl | decide +kernel | kernel_rfl)
    (case z1 => first | k_is | k_exc | kts_exm | decide | rfl | decide +kernel | kernel_rfl)
    (case z2 => first | k_is | k_exc | kts_exm | decide | rfl | decide +kernel | kernel_rfl)
    (case z3 => first | k_is | k_exc | kts_exm | decide | rfl | decide +kernel | kernel_rfl)
    (case z4 => first | k_is | k_exc | kts_exm | decide | rfl | decide +kernel | kernel_rfl)
    (case z5 => first | k_is | k_exc | kts_exm | decide | rfl | decide +kernel | kernel_rfl)
    (case z6 => first | k_is | k_exc | kts_exm | decide | rfl | decide +kernel | kernel_rfl)
    (case z7 => first | k_is | k_exc | kts_exm | decide | rfl | decide +kernel | kernel_rfl)
    (case z8 => first | k_is | k_exc | kts_exm | decide | rfl | decide +kernel | kernel_rfl)
#print axioms PySem.Challenge.cw_pacehall_k13_all_places_holds

