import PyProof.Rows.All
import Wide.All
import OpenK.AllK
import Wide.FinOn
import Lean
import PyProof.EqAt
import PyProof.EqKinds
import PyProof.TupleCall
import PySem.Challenge.RW_pacehall_k72_walks
-- CHANGE: your row's module here, as the last of these rows
set_option Elab.async false
set_option linter.all false
set_option maxRecDepth 100000
namespace L2
open PySem PySem.Spec PyProof.Rows
abbrev Key := Sum Int Str
def keyIs : Key → Value → Bool
  | .inl k, v => Value.isInt k v
  | .inr x, v => Value.isStrOf x v
def keyH (w : World) : Key → Int
  | .inl k => hashInt k
  | .inr x => hashStr w x
theorem keyIs_shape : ∀ {k : Key} {v : Value}, keyIs k v = true → (∃ i t, k = Sum.inl i ∧ v = Value.int i t) ∨ (∃ x t, k = Sum.inr x ∧ v = Value.str x t)
  | .inl i, v, h => by
    obtain ⟨t, e⟩ := Value.isInt_shape (k := i) (v := v) h
    exact .inl ⟨i, t, rfl, e⟩
  | .inr x, v, h => by
    obtain ⟨t, e⟩ := Value.isStrOf_shape (x := x) (v := v) h
    exact .inr ⟨x, t, rfl, e⟩
theorem key_ll (a b : Int) : decide ((Sum.inl a : Key) = Sum.inl b) = (a == b) := by
  by_cases e : a = b
  · subst e; simp
  · have h : ¬ (Sum.inl a : Key) = Sum.inl b := fun q => e (Sum.inl.inj q)
    rw [decide_eq_false h]
    exact (beq_eq_false_iff_ne.mpr e).symm
theorem key_rr (a b : Str) : decide ((Sum.inr a : Key) = Sum.inr b) = decide (a = b) := by
  by_cases e : a = b
  · subst e; simp
  · have h : ¬ (Sum.inr a : Key) = Sum.inr b := fun q => e (Sum.inr.inj q)
    rw [decide_eq_false h, decide_eq_false e]
theorem key_lr (a : Int) (b : Str) : decide ((Sum.inl a : Key) = Sum.inr b) = false := decide_eq_false (fun q => nomatch q)
theorem key_rl (a : Str) (b : Int) : decide ((Sum.inr a : Key) = Sum.inl b) = false := decide_eq_false (fun q => nomatch q)
def mixKind (prog : Program) (w : World) : PySem.KeyKind prog w Key where
  is := keyIs
  hash := keyH w
  inj := fun v a b ha hb => by
    rcases keyIs_shape ha with ⟨i, t, rfl, rfl⟩ | ⟨x, t, rfl, rfl⟩
    · rcases keyIs_shape hb with ⟨j, u, rfl, e⟩ | ⟨y, u, rfl, e⟩
      · injection e with e1 _; rw [e1]
      · exact nomatch e
    · rcases keyIs_shape hb with ⟨j, u, rfl, e⟩ | ⟨y, u, rfl, e⟩
      · exact nomatch e
      · injection e with e1 _; rw [e1]
  byValue := fun k v h => by
    rcases keyIs_shape h with ⟨i, t, rfl, rfl⟩ | ⟨x, t, rfl, rfl⟩ <;> rfl
  pyHash := fun hv h => by
    rcases keyIs_shape hv with ⟨i, t, rfl, rfl⟩ | ⟨x, t, rfl, rfl⟩
    · exact wpAny_pyHash_int h
    · exact wpAny_pyHash_str h
  eqBool := fun hu hv h => by
    rcases keyIs_shape hu with ⟨i, t, rfl, rfl⟩ | ⟨x, t, rfl, rfl⟩
    · rcases keyIs_shape hv with ⟨j, u, rfl, rfl⟩ | ⟨y, u, rfl, rfl⟩
      · rw [key_ll] at h; exact wpAny_eqBool_int h
      · rw [key_lr] at h; exact SeqAt.EqAt.int_str i t y u _ _ _ _ h
    · rcases keyIs_shape hv with ⟨j, u, rfl, rfl⟩ | ⟨y, u, rfl, rfl⟩
      · rw [key_rl] at h; exact SeqAt.EqAt.str_int x t j u _ _ _ _ h
      · rw [key_rr] at h; exact wpAny_eqBool_str h
  «strs» := fun k x t v h => by
    rcases keyIs_shape h with ⟨i, u, rfl, e⟩ | ⟨y, u, rfl, e⟩
    · exact nomatch e
    · injection e with e1 _
      subst e1
      cases v <;> rfl
end L2
namespace L2
open PySem PySem.Spec PyProof.Rows
inductive V where
  | non | bl (b : Bool) | int (i : Int) | str (x : Str) | byt (b : Array UInt8) | flt (b : UInt64) | ref (a : Addr) | ty (n : String)
  deriving DecidableEq
def RelV : V → Value → Prop
  | .non, u => u = Value.none
  | .bl b, u => u = Value.bool b
  | .int i, u => ∃ t, u = Value.int i t
  | .str x, u => ∃ t, u = Value.str x t
  | .byt b, u => ∃ t, u = Value.bytes b t
  | .flt b, u => ∃ t, u = Value.float b t
  | .ref a, u => u = Value.ref a
  | .ty n, u => u = Value.type n
abbrev Vals : List V → List Value → Prop := Paired RelV
theorem Vals.length {xs : List V} {us : List Value} (r : Vals xs us) : xs.length = us.length := Paired.length r
theorem Vals.get : ∀ {xs : List V} {us : List Value} {i : Nat} {x : V}, Vals xs us → xs[i]? = some x → ∃ u, us[i]? = some u ∧ RelV x u
  | _, _, _, _, .nil, e => by simp at e
  | _, _, 0, _, .cons r _, e => by simp at e; subst e; exact ⟨_, rfl, r⟩
  | _, _, i + 1, x, .cons _ t, e => by
    obtain ⟨u, h1, h2⟩ := Vals.get (i := i) (x := x) t (by simpa using e)
    exact ⟨u, by simpa using h1, h2⟩
theorem Vals.set {x : V} {u : Value} (r : RelV x u) : ∀ {xs : List V} {us : List Value} (i : Nat), Vals xs us → Vals (xs.set i x) (us.set i u)
  | _, _, _, .nil => .nil
  | _, _, 0, .cons _ t => .cons r t
  | _, _, i + 1, .cons q t => .cons q (Vals.set r i t)
theorem Vals.append : ∀ {xs ys : List V} {us ws : List Value}, Vals xs us → Vals ys ws → Vals (xs ++ ys) (us ++ ws)
  | _, _, _, _, .nil, s => s
  | _, _, _, _, .cons r t, s => .cons r (Vals.append t s)
theorem Vals.take : ∀ {xs : List V} {us : List Value} (n : Nat), Vals xs us → Vals (xs.take n) (us.take n)
  | _, _, 0, _ => .nil
  | _, _, _ + 1, .nil => .nil
  | _, _, n + 1, .cons r t => .cons r (Vals.take n t)
theorem Vals.drop : ∀ {xs : List V} {us : List Value} (n : Nat), Vals xs us → Vals (xs.drop n) (us.drop n)
  | _, _, 0, r => r
  | _, _, _ + 1, .nil => .nil
  | _, _, n + 1, .cons _ t => Vals.drop n t
def RelO : Option V → Option Value → Prop
  | some v, some u => RelV v u
  | none, none => True
  | _, _ => False
def KV {κ : Type} : List (κ × V) → List (κ × Value) → Prop := Paired fun (p : κ × V) (q : κ × Value) => p.1 = q.1 ∧ RelV p.2 q.2
def kV : Key → V
  | .inl i => .int i
  | .inr x => .str x
inductive HO where
  | lst (xs : List V)
  | tup (xs : List V)
  | dK (kvs : List (Key × V)) | dT (kvs : List (List Key × V))
  | set (S : Int → Bool) (n : Nat)
  | ins (C dx : Addr) (fs : List (Str × V))
  | own (x : Addr)
  | xd (fs : List (Str × V))
  | met (f x : Addr)
  | rng (lo hi : Int)
  | frz (o : Obj) (u : HO)
  | tbl (ps : Array Value)
  | ext (φ : Heap → Prop)
abbrev Hp := Addr → Option HO
def upd (H : Hp) (a : Addr) (o : HO) : Hp := fun b => if b = a then some o else H b
theorem upd_same {H : Hp} {a : Addr} {o : HO} : upd H a o a = some o := by unfold upd; rw [if_pos rfl]
theorem upd_ne {H : Hp} {a b : Addr} {o : HO} (h : b ≠ a) : upd H a o b = H b := by unfold upd; rw [if_neg h]
theorem ne_of_none {H : Hp} {a b : Addr} {o : HO} (h : H a = some o) (h' : H b = none) : a ≠ b := by
  intro e; subst e; rw [h] at h'; cases h'
section
variable (P : Program) (w : World)
def ObjOk (H : Hp) (h : Heap) (a : Addr) : HO → Prop
  | .lst xs => xs.length ≤ sizeLine ∧ ∃ (its : List Value) (n : Nat), Vals xs its ∧ h.get? a = some { cls := .type "list", data := .seq its.toArray n }
  | .tup xs => xs.length ≤ sizeLine ∧ ∃ its : List Value, Vals xs its ∧ IsTup h a its.toArray
  | .dK kvs => kvs.length ≤ sizeLine ∧ (a == sysModules) = false ∧ ∃ vs, KV kvs vs ∧ h.DictOf (mixKind P w) a vs
  | .dT kvs => kvs.length ≤ sizeLine ∧ (a == sysModules) = false ∧ ∃ xs : List (List Key × Addr × Value),
      Paired (fun (p : List Key × V) (q : List Key × Addr × Value) => p.1 = q.1 ∧ H q.2.1 = some (.tup (p.1.map kV)) ∧ RelV p.2 q.2.2) kvs xs ∧
      ∃ o es ep, h.get? a = some o ∧ o.ExactDict ∧ o.data = .dict es ep ∧ es.toList = xs.map (entryOfKey (tupleKind (mixKind P w))) ∧ (xs.map (·.1)).Nodup
  | .set S n => h.SetOf (intKind P w) a S n
  | .ins C dx fs => H dx = some (.own a) ∧ fs.length ≤ 1000 ∧ dx ≠ a ∧ h.get? a = some (PySem.W.instObj C dx) ∧
      ∃ mA, h.Ns1 dx mA ∧ (∀ f, RelO (fs.lookup f) (mA f)) ∧ PySem.Within mA (fs.map (·.1))
  | .own _ => ∃ o, h.get? a = some o
  | .xd fs => ∃ mA, h.Ns1 a mA ∧ ∀ f, RelO (fs.lookup f) (mA f)
  | .rng lo hi => ∃ t u v, h.get? a = some { cls := .type "range", data := .fields #[.int lo t, .int hi u, .int 1 v] }
  | .frz o u => h.get? a = some o ∧ ObjOk H h a u
  | .tbl ps => h.get? a = some { cls := .none, data := .fields ps }
  | .met f x => h.get? a = some (PySem.W.methodObj (.ref f) (.ref x))
  | .ext φ => φ h ∧ (∃ o, h.get? a = some o) ∧ ∀ h1 h2 : Heap, φ h1 → (∀ o, h1.get? a = some o → h2.get? a = some o) → φ h2
def HOk (H : Hp) (h : Heap) : Prop := ∀ a o, H a = some o → ObjOk P w H h a o
end
section
variable {P : Program} {w : World} {H H' : Hp} {h h' : Heap} {a : Addr} {o : HO}
theorem ObjOk.lt (x : ObjOk P w H h a o) : a < h.objs.size := by
  cases o with
  | lst xs => obtain ⟨_, _, _, _, e⟩ := x; exact Heap.lt_size e
  | tup xs => obtain ⟨_, _, _, p⟩ := x; exact p.lt
  | dK kvs => obtain ⟨_, _, _, _, o, _, _, e, _⟩ := x; exact Heap.lt_size e
  | dT kvs => obtain ⟨_, _, _, _, o, _, _, e, _⟩ := x; exact Heap.lt_size e
  | set S n => obtain ⟨o, _, _, _, e, _⟩ := x; exact Heap.lt_size e
  | ins C dx fs => obtain ⟨_, _, _, e, _⟩ := x; exact Heap.lt_size e
  | own y => obtain ⟨_, e⟩ := x; exact Heap.lt_size e
  | xd fs => obtain ⟨_, ⟨_, _, _, e, _⟩, _⟩ := x; exact Heap.lt_size e
  | rng lo hi => obtain ⟨_, _, _, e⟩ := x; exact Heap.lt_size e
  | frz ob u => obtain ⟨e, _⟩ := x; exact Heap.lt_size e
  | tbl ps => exact Heap.lt_size (show h.get? a = some _ from x)
  | met f y => exact Heap.lt_size (show h.get? a = some _ from x)
  | ext φ => obtain ⟨_, ⟨_, e⟩, _⟩ := x; exact Heap.lt_size e
theorem Paired.mapP {α β : Type} {F G : α → β → Prop} : ∀ {l₁ : List α} {l₂ : List β}, Paired F l₁ l₂ → (∀ a b, F a b → G a b) → Paired G l₁ l₂
  | _, _, .nil, _ => .nil
  | _, _, .cons r t, f => .cons (f _ _ r) (Paired.mapP t f)
theorem ObjOk.stay (x : ObjOk P w H h a o) (k : ∀ b u, (b = a ∨ H b = some (.own a)) → h.get? b = some u → h'.get? b = some u)
    (ho : ∀ b, H b = some (.own a) → H' b = some (.own a)) (ht : ∀ b xs, H b = some (.tup xs) → H' b = some (.tup xs)) : ObjOk P w H' h' a o := by
  induction o with
  | lst xs => obtain ⟨z, its, n, r, e⟩ := x; exact ⟨z, its, n, r, k _ _ (.inl rfl) e⟩
  | tup xs => obtain ⟨z, its, r, ob, e, c⟩ := x; exact ⟨z, its, r, ob, k _ _ (.inl rfl) e, c⟩
  | dK kvs => obtain ⟨z, y, vs, r, ob, es, ep, e, c⟩ := x; exact ⟨z, y, vs, r, ob, es, ep, k _ _ (.inl rfl) e, c⟩
  | dT kvs =>
    obtain ⟨z, y, xs, r, ob, es, ep, e, c⟩ := x
    exact ⟨z, y, xs, Paired.mapP r fun p q z => ⟨z.1, ht _ _ z.2.1, z.2.2⟩, ob, es, ep, k _ _ (.inl rfl) e, c⟩
  | set S n => obtain ⟨ob, es, ep, t, e, c⟩ := x; exact ⟨ob, es, ep, t, k _ _ (.inl rfl) e, c⟩
  | ins C dx fs =>
    obtain ⟨d, z, ne, e, mA, ⟨od, es, ep, e2, c⟩, r⟩ := x
    exact ⟨ho _ d, z, ne, k _ _ (.inl rfl) e, mA, ⟨od, es, ep, k _ _ (.inr d) e2, c⟩, r⟩
  | own y => obtain ⟨ob, e⟩ := x; exact ⟨ob, k _ _ (.inl rfl) e⟩
  | xd fs => obtain ⟨mA, ⟨od, es, ep, e, c⟩, r⟩ := x; exact ⟨mA, ⟨od, es, ep, k _ _ (.inl rfl) e, c⟩, r⟩
  | rng lo hi => obtain ⟨t, u, v, e⟩ := x; exact ⟨t, u, v, k _ _ (.inl rfl) e⟩
  | frz ob u ih => obtain ⟨e, q⟩ := x; exact ⟨k _ _ (.inl rfl) e, ih q⟩
  | tbl ps =>
    have e : h.get? a = some { cls := .none, data := .fields ps } := x
    show h'.get? a = some { cls := .none, data := .fields ps }
    exact k a _ (.inl rfl) e
  | met f y =>
    have e : h.get? a = some (PySem.W.methodObj (.ref f) (.ref y)) := x
    show h'.get? a = some (PySem.W.methodObj (.ref f) (.ref y))
    exact k a _ (.inl rfl) e
  | ext φ => obtain ⟨p, ⟨o, e⟩, st⟩ := x; exact ⟨st _ _ p fun o q => k _ _ (.inl rfl) q, ⟨o, k _ _ (.inl rfl) e⟩, st⟩
theorem HOk.lt (x : HOk P w H h) (e : H a = some o) : a < h.objs.size := (x a o e).lt
theorem HOk.fresh (x : HOk P w H h) (e : h.objs.size ≤ a) : H a = none := by
  cases q : H a with
  | none => rfl
  | some u => exact absurd (Nat.lt_of_lt_of_le (x.lt q) e) (Nat.lt_irrefl _)
theorem HOk.kept (x : HOk P w H h) (k : ∀ b u, h.get? b = some u → h'.get? b = some u) : HOk P w H h' := fun a o e =>
  (x a o e).stay (fun b u _ q => k b u q) (fun _ q => q) fun _ _ q => q
theorem HOk.laid (x : HOk P w H h) (k : ∀ b u, h.get? b = some u → h'.get? b = some u) (hp : h.objs.size ≤ a) (new : ObjOk P w (upd H a o) h' a o) : HOk P w (upd H a o) h' := fun b u e => by
  have hn := x.fresh hp
  by_cases hb : b = a
  · subst hb; rw [upd_same] at e; cases e; exact new
  · rw [upd_ne hb] at e
    exact (x b u e).stay (fun c v _ q => k c v q) (fun c q => by rw [upd_ne (ne_of_none q hn)]; exact q) fun c xs q => by rw [upd_ne (ne_of_none q hn)]; exact q
end
def Rd (H : Hp) (a : Addr) (u : HO) : Prop := H a = some u ∨ ∃ o, H a = some (.frz o u)
theorem Rd.ok {P : Program} {w : World} {H : Hp} {h : Heap} {a : Addr} {u : HO} (r : Rd H a u) (x : HOk P w H h) : ObjOk P w H h a u := by
  rcases r with r | ⟨o, r⟩
  · exact x a u r
  · obtain ⟨_, q⟩ := x a _ r
    exact q
def Mut : Option HO → Prop
  | some (.lst _) => True
  | some (.dK _) => True
  | some (.dT _) => True
  | some (.set _ _) => True
  | some (.ins _ _ _) => True
  | some (.ext _) => True
  | _ => False
section
variable {P : Program} {w : World} {H : Hp} {h h' : Heap} {x e : Addr} {o' : HO}
theorem HOk.write (ok : HOk P w H h) (mu : Mut (H x)) (he : e = x ∨ H e = some (.own x)) (k : ∀ b u, b ≠ e → h.get? b = some u → h'.get? b = some u) (heo : ∃ u, h'.get? e = some u)
    (new : ObjOk P w (upd H x o') h' x o') : HOk P w (upd H x o') h' := fun b u q => by
  have nown : ∀ c y, H c = some (.own y) → c ≠ x := fun c y r z => by subst z; rw [r] at mu; exact mu
  have ntup : ∀ c xs, H c = some (.tup xs) → c ≠ x := fun c xs r z => by subst z; rw [r] at mu; exact mu
  by_cases hb : b = x
  · subst hb; rw [upd_same] at q; cases q; exact new
  · rw [upd_ne hb] at q
    by_cases hbe : b = e
    · have q' : H b = some (.own x) := by
        rcases he with z | z
        · exact absurd (hbe.trans z) hb
        · rw [hbe]; exact z
      rw [q] at q'; cases q'
      obtain ⟨v, hv⟩ := heo
      exact ⟨v, by rw [hbe]; exact hv⟩
    · refine (ok b u q).stay (fun c v hc r => k c v ?_ r) (fun c r => by rw [upd_ne (nown c b r)]; exact r) fun c xs r => by rw [upd_ne (ntup c xs r)]; exact r
      rcases hc with rfl | hc
      · exact hbe
      · rintro rfl
        rcases he with z | z
        · exact nown c b hc z
        · rw [hc] at z; cases z; exact hb rfl
end
structure Un (fs ex : List Addr) (H H' : Hp) (h h' : Heap) : Prop where
  keep : ∀ b o, h.get? b = some o → H b = none → b ∉ fs → b ∉ ex → h'.get? b = some o
  slot : ∀ b o, h.get? b = some o → H b = none → b ∈ fs → b ∉ ex → ∃ sl, h'.get? b = some { o with slots := sl }
  free : ∀ b o, h.get? b = some o → H b = none → b ∉ ex → H' b = none
  there : ∀ b o, h.get? b = some o → b ∉ ex → ∃ o', h'.get? b = some o'
  tups : ∀ b xs, H b = some (.tup xs) → H' b = some (.tup xs)
  frzs : ∀ b o u, H b = some (.frz o u) → H' b = some (.frz o u)
  tbls : ∀ b ps, H b = some (.tbl ps) → ∃ more, H' b = some (.tbl (ps ++ more))
section
variable {fs fs' ex ex' : List Addr} {H H1 H2 : Hp} {h h1 h2 h' : Heap} {a x e : Addr} {o : HO}
theorem Un.any (u : Un fs ex H H1 h h1) {b : Addr} {ob : Obj} (q : h.get? b = some ob) (n : H b = none) (hx : b ∉ ex) : ∃ sl, h1.get? b = some { ob with slots := sl } := by
  by_cases hb : b ∈ fs
  · exact u.slot b ob q n hb hx
  · exact ⟨ob.slots, u.keep b ob q n hb hx⟩
theorem Un.trans (a : Un fs ex H H1 h h1) (b : Un fs ex H1 H2 h1 h2) : Un fs ex H H2 h h2 where
  keep := fun c ob q n hc hx => b.keep c ob (a.keep c ob q n hc hx) (a.free c ob q n hx) hc hx
  slot := fun c ob q n hc hx => by
    obtain ⟨sl, e1⟩ := a.slot c ob q n hc hx
    obtain ⟨sl', e2⟩ := b.slot c _ e1 (a.free c ob q n hx) hc hx
    exact ⟨sl', e2⟩
  free := fun c ob q n hx => by
    obtain ⟨o', e1⟩ := a.there c ob q hx
    exact b.free c o' e1 (a.free c ob q n hx) hx
  there := fun c ob q hx => by
    obtain ⟨o', e1⟩ := a.there c ob q hx
    exact b.there c o' e1 hx
  tups := fun c xs q => b.tups c xs (a.tups c xs q)
  frzs := fun c ob xs q => b.frzs c ob xs (a.frzs c ob xs q)
  tbls := fun c ps q => by
    obtain ⟨m1, e1⟩ := a.tbls c ps q
    obtain ⟨m2, e2⟩ := b.tbls c _ e1
    exact ⟨m1 ++ m2, by rw [e2, Array.append_assoc]⟩
theorem Un.kept (k : ∀ b u, h.get? b = some u → h'.get? b = some u) : Un fs ex H H h h' :=
  ⟨fun b ob q _ _ _ => k b ob q, fun b ob q _ _ _ => ⟨ob.slots, k b ob q⟩, fun _ _ _ n _ => n, fun b ob q _ => ⟨ob, k b ob q⟩, fun _ _ q => q, fun _ _ _ q => q, fun _ ps q => ⟨#[], by rw [q]; simp⟩⟩
theorem Un.refl : Un fs ex H H h h := Un.kept fun _ _ q => q
theorem Un.laid (k : ∀ b u, h.get? b = some u → h'.get? b = some u) (hp : h.objs.size ≤ a) (hn : H a = none) : Un fs ex H (upd H a o) h h' where
  keep := fun b u q _ _ _ => k b u q
  slot := fun b u q _ _ _ => ⟨u.slots, k b u q⟩
  free := fun b u q n _ => by rw [upd_ne (Nat.ne_of_lt (Nat.lt_of_lt_of_le (Heap.lt_size q) hp))]; exact n
  there := fun b u q _ => ⟨u, k b u q⟩
  tups := fun b xs q => by rw [upd_ne (ne_of_none q hn)]; exact q
  frzs := fun b u xs q => by rw [upd_ne (ne_of_none q hn)]; exact q
  tbls := fun b ps q => ⟨#[], by rw [upd_ne (ne_of_none q hn), q]; simp⟩
theorem Un.write (mu : Mut (H x)) (he : e = x ∨ H e = some (.own x)) (k : ∀ b u, b ≠ e → h.get? b = some u → h'.get? b = some u) (heo : ∃ u, h'.get? e = some u) : Un fs ex H (upd H x o) h h' := by
  have hx : ∀ b, H b = none → b ≠ x := fun b n z => by subst z; rw [n] at mu; exact mu
  have hb : ∀ b, H b = none → b ≠ e := fun b n z => by
    subst z
    rcases he with r | r
    · exact hx b n r
    · rw [n] at r; cases r
  have hm : ∀ b u, H b = some u → ¬ Mut (some u) → b ≠ x := fun b u q nm z => by subst z; rw [q] at mu; exact nm mu
  refine ⟨fun b u q n _ _ => k b u (hb b n) q, fun b u q n _ _ => ⟨u.slots, k b u (hb b n) q⟩, fun b u q n _ => by rw [upd_ne (hx b n)]; exact n, fun b u q _ => ?_,
    fun b xs q => by rw [upd_ne (hm b _ q fun z => z)]; exact q, fun b u xs q => by rw [upd_ne (hm b _ q fun z => z)]; exact q, fun b ps q => ⟨#[], by rw [upd_ne (hm b _ q fun z => z), q]; simp⟩⟩
  by_cases hbe : b = e
  · subst hbe; exact heo
  · exact ⟨u, k b u hbe q⟩
end
def trk (h : Heap) (H : Hp) : List Addr := (List.range h.objs.size).filter fun a => (H a).isSome
def hidT (h : Heap) (H : Hp) : Heap := PySem.W.hideAll h (trk h H)
theorem hidT_size (h : Heap) (H : Hp) : (hidT h H).objs.size = h.objs.size := PySem.W.hideAll_size _ _
theorem hidT_get {h : Heap} {H : Hp} {b : Addr} {o : Obj} (e : h.get? b = some o) (n : H b = none) : (hidT h H).get? b = some o :=
  PySem.W.hideAll_get _ e fun hm => by
    have q : (H b).isSome = true := (List.mem_filter.mp hm).2
    rw [n] at q; simp at q
theorem of_hidT {h : Heap} {H : Hp} {b : Addr} {o : Obj} (e : (hidT h H).get? b = some o) : h.get? b = some o ∧ H b = none := by
  have e' : h.get? b = some o := PySem.W.of_hideAll (trk h H) e
  refine ⟨e', ?_⟩
  cases q : H b with
  | none => rfl
  | some x =>
    have hm : b ∈ trk h H := List.mem_filter.mpr ⟨List.mem_range.mpr (Heap.lt_size e'), by simp [q]⟩
    have z : (hidT h H).get? b = none := PySem.W.hideAll_none (trk h H) hm
    rw [z] at e; cases e
def allNews (g h : Heap) (L : Addr) : List (Addr × Obj) := (List.range h.objs.size).filterMap fun a => if a = L ∨ (g.get? a).isSome = true then none else (h.get? a).map fun o => (a, o)
def rest (g h : Heap) (L d : Addr) : List (Addr × Obj) := (allNews g h L).filter fun p => decide (p.1 ≠ d)
end L2
namespace L2
open PySem PySem.Spec PyProof.Rows
structure Mod (K : PySem.W.Frag) (mg : Str → Option Value) (base : Heap) : Prop where
  kin : K.In base
  glob : base.Ns mainGlobals mg
  blt : ∃ mb, base.Ns builtinsNs mb ∧ ∀ x : Str, x ≠ "__name__" → mb x = bootBuiltins x
  nolimit : base.NoLimit
structure Cx where
  prog : Program
  w : World
  K : PySem.W.Frag
  mg : Str → Option Value
  base : Heap
  A : Around
  N : List Str
  s₀ : Shared
  H₀ : Hp
  env : Env
  outer : List Env
  stack : List Env
  ex : List Addr
  fn : Str → Bool
  calm : Bool
  pn : List (Addr × Obj)
  xe : Value → Shared → Prop
def frs (l : List Env) : List Addr := l.filterMap (·.frame)
abbrev Cx.fs (X : Cx) : List Addr := frs X.outer
def Vis (sc : Scope) (x : Str) : Prop := sc.names.lookup x = some .local ∨ sc.names.lookup x = some .cell ∨ sc.names.lookup x = some .free
def Loc (sc : Scope) (x : Str) : Prop := sc.names.lookup x = some .local ∨ sc.names.lookup x = some .cell
def Look (env : Env) (h : Heap) (m : Str → Option Value) (x : Str) (u : Value) : Prop :=
  (env.kindOf x = some .local ∧ m x = some u) ∨ ((env.kindOf x = some .cell ∨ env.kindOf x = some .free) ∧ ∃ c, env.cells.lookup x = some c ∧ h.IsCell c (some u))
structure Cx.Ok (X : Cx) : Prop where
  mod : Mod X.K X.mg X.base
  kind : X.env.scope.kind = .function
  glob : X.env.globals = mainGlobals
  blt : X.env.builtins = builtinsNs
  above : X.s₀.heap.objs.size ≤ X.env.locals
  inj : ∀ x y c, X.env.cells.lookup x = some c → X.env.cells.lookup y = some c → x = y
  has : ∀ x, (X.env.kindOf x = some .cell ∨ X.env.kindOf x = some .free) → ∃ c, X.env.cells.lookup x = some c
  cab : ∀ x c, X.fn x = true → X.env.cells.lookup x = some c → X.s₀.heap.objs.size ≤ c
  hd : X.calm = true → X.A.handled = none
  frames : X.A.frames = some X.stack
  stk : X.stack = X.outer ∨ (X.stack = X.env :: X.outer ∧ X.env.frame = some X.env.locals)
  exf : ∀ b ∈ X.ex, b ≠ X.env.locals ∧ ∀ x c, X.env.cells.lookup x = some c → c ≠ b
  bs : ∀ b o, X.base.get? b = some o → X.s₀.heap.get? b = some o ∧ X.H₀ b = none
  bsz : X.base.objs.size ≤ X.s₀.heap.objs.size
  noex : ∀ b o, X.base.get? b = some o → b ∉ X.ex
  exfs : ∀ b ∈ X.ex, b ∉ X.fs
  funs : X.s₀.heap.FunFrames X.base X.outer
  frf : ∀ b ∈ X.fs, X.H₀ b = none
structure Inv (X : Cx) (pins : List (Addr × Obj)) (σ : List (Option V)) (H : Hp) (s : Shared) : Prop where
  ok : X.Ok
  os : s.os = X.s₀.os
  bare : AllBare s.gens
  base : Un X.fs X.ex X.H₀ H X.s₀.heap s.heap
  loc : ∃ m, s.heap.Ns X.env.locals m ∧ ∀ (i : Nat) (x : Str) (v : V), X.N[i]? = some x → σ[i]? = some (some v) → Vis X.env.scope x → ∃ u, RelV v u ∧ Look X.env s.heap m x u
  cell : ∀ x c, X.env.cells.lookup x = some c → ∃ v, s.heap.IsCell c v
  free : H X.env.locals = none
  freeC : ∀ x c, X.env.cells.lookup x = some c → H c = none
  pin : ∀ p ∈ X.pn ++ pins, s.heap.get? p.1 = some p.2 ∧ H p.1 = none ∧ p.1 ≠ X.env.locals ∧ p.1 ∉ X.fs ∧ ∀ v, p.2.data ≠ .cell v
  hok : HOk X.prog X.w H s.heap
  len : σ.length = X.N.length
section
variable {X : Cx} {pins : List (Addr × Obj)} {σ : List (Option V)} {H H' : Hp} {s : Shared} {h' : Heap}
theorem Cx.Ok.nofr (ok : X.Ok) {b : Addr} {o : Obj} (e : X.base.get? b = some o) : b ∉ X.fs := fun hb => by
  have := (ok.funs.mem hb).1
  rw [e] at this; cases this
theorem Inv.bs (I : Inv X pins σ H s) : ∀ b o, X.base.get? b = some o → s.heap.get? b = some o ∧ H b = none := fun b o e =>
  ⟨I.base.keep b o (I.ok.bs b o e).1 (I.ok.bs b o e).2 (I.ok.nofr e) (I.ok.noex b o e), I.base.free b o (I.ok.bs b o e).1 (I.ok.bs b o e).2 (I.ok.noex b o e)⟩
theorem Inv.bk (I : Inv X pins σ H s) : ∀ b o, X.base.get? b = some o → s.heap.get? b = some o := fun b o e => (I.bs b o e).1
theorem Inv.mod (I : Inv X pins σ H s) : Mod X.K X.mg X.base := I.ok.mod
theorem Inv.kIn (I : Inv X pins σ H s) : X.K.In s.heap := I.ok.mod.kin.keeps I.bk
theorem Inv.lt (I : Inv X pins σ H s) : X.env.locals < s.heap.objs.size := let ⟨_, hn, _⟩ := I.loc; hn.lt
theorem Inv.sz (I : Inv X pins σ H s) : X.s₀.heap.objs.size ≤ s.heap.objs.size := Nat.le_trans I.ok.above (Nat.le_of_lt I.lt)
theorem Inv.nofs (I : Inv X pins σ H s) {a : Addr} (h : s.heap.objs.size ≤ a) : a ∉ X.fs := fun hb => by
  obtain ⟨_, o, ho, _⟩ := I.ok.funs.mem hb
  exact absurd (Nat.lt_of_lt_of_le (Heap.lt_size ho) (Nat.le_trans I.sz h)) (Nat.lt_irrefl _)
theorem Inv.cne (I : Inv X pins σ H s) : ∀ x c, X.env.cells.lookup x = some c → c ≠ X.env.locals := fun x c e z => by
  obtain ⟨v, o, ho, hd⟩ := I.cell x c e
  obtain ⟨m, ⟨o', es, ep, ho', hd', _⟩, _⟩ := I.loc
  rw [z, ho'] at ho; cases ho; rw [hd'] at hd; cases hd
theorem Inv.funs (I : Inv X pins σ H s) : s.heap.FunFrames X.base X.outer := by
  have all : ∀ (l : List Env), (∀ b ∈ frs l, b ∈ X.fs) → X.s₀.heap.FunFrames X.base l → s.heap.FunFrames X.base l := by
    intro l
    induction l with
    | nil => intro _ _; trivial
    | cons env r ih =>
      intro hs hl
      obtain ⟨hk, ⟨L, o, hf, hn, ho, hd⟩, hr⟩ := hl
      have hL : L ∈ X.fs := hs L (by unfold frs; rw [List.filterMap_cons, hf]; exact List.mem_cons_self)
      obtain ⟨sl, e⟩ := I.base.slot L o ho (I.ok.frf L hL) hL fun z => I.ok.exfs L z hL
      exact ⟨hk, ⟨L, _, hf, hn, e, hd⟩, ih (fun b hb => hs b (by unfold frs; rw [List.filterMap_cons, hf]; exact List.mem_cons_of_mem _ hb)) hr⟩
  exact all X.outer (fun _ hb => hb) I.ok.funs
theorem Inv.stack (I : Inv X pins σ H s) : s.heap.FunFrames X.base X.stack := by
  rcases I.ok.stk with e | ⟨e, hf⟩
  · rw [e]; exact I.funs
  · rw [e]
    obtain ⟨m, hn, _⟩ := I.loc
    refine .cons (by rw [I.ok.kind]; decide) hf hn ?_ I.funs
    exact Heap.get?_none_of_le (Nat.le_trans I.ok.bsz I.ok.above)
theorem Inv.stkSub (I : Inv X pins σ H s) : ∀ b ∈ frs X.stack, b ∈ X.env.locals :: X.fs := fun b hb => by
  rcases I.ok.stk with e | ⟨e, hf⟩
  · rw [e] at hb; exact List.mem_cons_of_mem _ hb
  · rw [e] at hb
    unfold frs at hb
    rw [List.filterMap_cons, hf] at hb
    exact hb
theorem Inv.stkFree (I : Inv X pins σ H s) : ∀ b ∈ frs X.stack, H b = none := fun b hb => by
  rcases List.mem_cons.mp (I.stkSub b hb) with e | hb
  · rw [e]; exact I.free
  · obtain ⟨_, o, ho, _⟩ := I.ok.funs.mem hb
    exact I.base.free b o ho (I.ok.frf b hb) fun z => I.ok.exfs b z hb
theorem Inv.step {g' : Array GenState} {t' : Nat} {d' : Drawn} {ch : List Addr} (I : Inv X pins σ H s)
    (hch : ∀ b ∈ ch, (b ∈ X.ex ∨ X.s₀.heap.objs.size ≤ b) ∧ b ≠ X.env.locals ∧ (∀ x c, X.env.cells.lookup x = some c → c ≠ b) ∧ ∀ p ∈ X.pn ++ pins, p.1 ≠ b)
    (keep : ∀ b o, b ≠ X.env.locals → b ∉ X.fs → b ∉ ch → s.heap.get? b = some o → H b = none → h'.get? b = some o)
    (slot : ∀ b o, b ≠ X.env.locals → b ∈ X.fs → b ∉ ch → s.heap.get? b = some o → H b = none → ∃ sl, h'.get? b = some { o with slots := sl }) (free : ∀ b o, b ∉ ch → s.heap.get? b = some o → H b = none → H' b = none)
    (there : ∀ b o, b ∉ ch → s.heap.get? b = some o → ∃ o', h'.get? b = some o')
    (tups : ∀ b xs, H b = some (.tup xs) → H' b = some (.tup xs)) (frzs : ∀ b o u, H b = some (.frz o u) → H' b = some (.frz o u)) (tbls : ∀ b ps, H b = some (.tbl ps) → ∃ more, H' b = some (.tbl (ps ++ more)))
    (ns : ∀ m, s.heap.Ns X.env.locals m → h'.Ns X.env.locals m) (hok : HOk X.prog X.w H' h') (hg : AllBare g') :
    Inv X pins σ H' { s with heap := h', gens := g', drawn := d', toks := t' } := by
  have neL : ∀ b o, X.s₀.heap.get? b = some o → b ≠ X.env.locals := fun b o e => Nat.ne_of_lt (Nat.lt_of_lt_of_le (Heap.lt_size e) I.ok.above)
  have neC : ∀ b o, X.s₀.heap.get? b = some o → b ∉ X.ex → b ∉ ch := fun b o e hx hb => by
    rcases (hch b hb).1 with z | z
    · exact hx z
    · exact absurd (Nat.lt_of_lt_of_le (Heap.lt_size e) z) (Nat.lt_irrefl _)
  have cellK : ∀ x c, X.env.cells.lookup x = some c → ∀ v, s.heap.IsCell c v → h'.IsCell c v := fun x c e v ⟨o, ho, hd⟩ => by
    have nch : c ∉ ch := fun z => (hch c z).2.2.1 x c e rfl
    by_cases hc : c ∈ X.fs
    · obtain ⟨sl, q⟩ := slot c o (I.cne x c e) hc nch ho (I.freeC x c e)
      exact ⟨_, q, hd⟩
    · exact ⟨o, keep c o (I.cne x c e) hc nch ho (I.freeC x c e), hd⟩
  refine ⟨I.ok, I.os, hg, ⟨fun b o e n hb hx => ?_, fun b o e n hb hx => ?_, fun b o e n hx => ?_, fun b o e hx => ?_, fun b xs e => tups b xs (I.base.tups b xs e), fun b o xs e => frzs b o xs (I.base.frzs b o xs e), fun b ps e => ?_⟩, ?_, fun x c e => ?_, ?_, fun x c e => ?_, fun p hp => ?_, hok, I.len⟩
  · exact keep b o (neL b o e) hb (neC b o e hx) (I.base.keep b o e n hb hx) (I.base.free b o e n hx)
  · obtain ⟨sl, e1⟩ := I.base.slot b o e n hb hx
    obtain ⟨sl', e2⟩ := slot b _ (neL b o e) hb (neC b o e hx) e1 (I.base.free b o e n hx)
    exact ⟨sl', e2⟩
  · obtain ⟨o', e1⟩ := I.base.there b o e hx
    exact free b o' (neC b o e hx) e1 (I.base.free b o e n hx)
  · obtain ⟨o', e1⟩ := I.base.there b o e hx
    exact there b o' (neC b o e hx) e1
  · obtain ⟨m1, e1⟩ := I.base.tbls b ps e
    obtain ⟨m2, e2⟩ := tbls b _ e1
    exact ⟨m1 ++ m2, by rw [e2, Array.append_assoc]⟩
  · obtain ⟨m, hn, hl⟩ := I.loc
    refine ⟨m, ns m hn, fun i x v e1 e2 e3 => ?_⟩
    obtain ⟨u, r, l⟩ := hl i x v e1 e2 e3
    refine ⟨u, r, ?_⟩
    rcases l with l | ⟨k, c, e, z⟩
    · exact .inl l
    · exact .inr ⟨k, c, e, cellK x c e _ z⟩
  · obtain ⟨v, z⟩ := I.cell x c e
    exact ⟨v, cellK x c e v z⟩
  · obtain ⟨m, ⟨o, _, _, ho, _⟩, _⟩ := I.loc
    exact free _ o (fun z => (hch _ z).2.1 rfl) ho I.free
  · obtain ⟨v, o, ho, hd⟩ := I.cell x c e
    exact free c o (fun z => (hch c z).2.2.1 x c e rfl) ho (I.freeC x c e)
  · obtain ⟨e, n, ne, nf, d⟩ := I.pin p hp
    have nch : p.1 ∉ ch := fun z => (hch p.1 z).2.2.2 p hp rfl
    exact ⟨keep p.1 p.2 ne nf nch e n, free p.1 p.2 nch e n, ne, nf, d⟩
theorem Inv.un {t' : Nat} (I : Inv X pins σ H s) (u : Un X.fs [] H H' s.heap h') (hok : HOk X.prog X.w H' h') : Inv X pins σ H' { s with heap := h', toks := t' } := by
  obtain ⟨m, ⟨o, es, ep, ho, r⟩, _⟩ := id I.loc
  obtain ⟨sl, hL⟩ := u.any ho I.free (by simp)
  exact I.step (g' := s.gens) (d' := s.drawn) (ch := []) (fun _ z => nomatch z) (fun b o _ hb _ e n => u.keep b o e n hb (by simp)) (fun b o _ hb _ e n => u.slot b o e n hb (by simp)) (fun b o _ e n => u.free b o e n (by simp)) (fun b o _ e => u.there b o e (by simp)) u.tups u.frzs u.tbls (fun m' hm => by
    obtain ⟨o', es', ep', ho', r'⟩ := hm
    rw [ho] at ho'; cases ho'
    exact ⟨_, es', ep', hL, r'⟩) hok I.bare
theorem Inv.call {g' : Array GenState} {t' : Nat} {d' : Drawn} {ch : List Addr} (I : Inv X pins σ H s) (u : Un (frs X.stack) ch H H' s.heap h') (hok : HOk X.prog X.w H' h') (hg : AllBare g')
    (hch : ∀ b ∈ ch, (b ∈ X.ex ∨ X.s₀.heap.objs.size ≤ b) ∧ b ≠ X.env.locals ∧ (∀ x c, X.env.cells.lookup x = some c → c ≠ b) ∧ ∀ p ∈ X.pn ++ pins, p.1 ≠ b) :
    Inv X pins σ H' { s with heap := h', gens := g', drawn := d', toks := t' } := by
  obtain ⟨m, ⟨o, es, ep, ho, r⟩, _⟩ := id I.loc
  obtain ⟨sl, hL⟩ := u.any ho I.free fun z => (hch _ z).2.1 rfl
  exact I.step (ch := ch) hch (fun b o hL hb hc e n => u.keep b o e n (fun z => (List.mem_cons.mp (I.stkSub b z)).elim hL hb) hc) (fun b o _ _ hc e n => u.any e n hc) (fun b o hc e n => u.free b o e n hc) (fun b o hc e => u.there b o e hc) u.tups u.frzs u.tbls (fun m' hm => by
    obtain ⟨o', es', ep', ho', r'⟩ := hm
    rw [ho] at ho'; cases ho'
    exact ⟨_, es', ep', hL, r'⟩) hok hg
theorem Inv.turned {t' : Nat} {it : Addr} (I : Inv X pins σ H s) (k : ∀ b o, b ≠ it → s.heap.get? b = some o → h'.get? b = some o) (hn : H it = none) (hL : it ≠ X.env.locals)
    (h1 : it ∈ X.ex ∨ X.s₀.heap.objs.size ≤ it) (h2 : ∀ x c, X.env.cells.lookup x = some c → c ≠ it) (h3 : ∀ p ∈ X.pn ++ pins, p.1 ≠ it) : Inv X pins σ H { s with heap := h', toks := t' } := by
  have nit : ∀ b u, H b = some u → b ≠ it := fun b u e z => by rw [z, hn] at e; cases e
  refine I.step (g' := s.gens) (d' := s.drawn) (ch := [it]) (fun b hb => ?_) (fun b o _ _ hc e _ => k b o (fun z => hc (by simp [z])) e) (fun b o _ _ hc e _ => ⟨o.slots, k b o (fun z => hc (by simp [z])) e⟩) (fun _ _ _ _ n => n)
    (fun b o hc e => ⟨o, k b o (fun z => hc (by simp [z])) e⟩) (fun _ _ e => e) (fun _ _ _ e => e) (fun b ps e => ⟨#[], by rw [e]; simp⟩) (fun m hm => ?_) (fun b u e => ?_) I.bare
  · have e : b = it := by simpa using hb
    subst e
    exact ⟨h1, hL, h2, h3⟩
  · obtain ⟨o, es, ep, ho, r⟩ := hm
    exact ⟨o, es, ep, k _ o (Ne.symm hL) ho, r⟩
  · refine (I.hok b u e).stay (fun c v hc q => k c v ?_ q) (fun _ q => q) fun _ _ q => q
    rcases hc with z | z
    · rw [z]; exact nit b u e
    · exact nit c _ z
theorem Inv.tok (I : Inv X pins σ H s) (t : Nat) : Inv X pins σ H { s with toks := t } := I.un (h' := s.heap) (t' := t) Un.refl I.hok
theorem Inv.kept {t' : Nat} (I : Inv X pins σ H s) (k : ∀ b u, s.heap.get? b = some u → h'.get? b = some u) : Inv X pins σ H { s with heap := h', toks := t' } := I.un (Un.kept k) (I.hok.kept k)
theorem Inv.laid {a : Addr} {o : HO} {t' : Nat} (I : Inv X pins σ H s) (k : ∀ b u, s.heap.get? b = some u → h'.get? b = some u) (hp : s.heap.objs.size ≤ a) (new : ObjOk X.prog X.w (upd H a o) h' a o) :
    Inv X pins σ (upd H a o) { s with heap := h', toks := t' } := I.un (Un.laid k hp (I.hok.fresh hp)) (I.hok.laid k hp new)
theorem Inv.write {x e : Addr} {o : HO} {t' : Nat} (I : Inv X pins σ H s) (mu : Mut (H x)) (he : e = x ∨ H e = some (.own x)) (k : ∀ b u, b ≠ e → s.heap.get? b = some u → h'.get? b = some u) (heo : ∃ u, h'.get? e = some u)
    (new : ObjOk X.prog X.w (upd H x o) h' x o) : Inv X pins σ (upd H x o) { s with heap := h', toks := t' } := I.un (Un.write mu he k heo) (I.hok.write mu he k heo new)
theorem Inv.weak {σ' : List (Option V)} (I : Inv X pins σ H s) (hl : σ'.length = σ.length) (w : ∀ (i : Nat) v, σ'[i]? = some (some v) → σ[i]? = some (some v)) : Inv X pins σ' H s :=
  ⟨I.ok, I.os, I.bare, I.base, let ⟨m, hn, hl'⟩ := I.loc; ⟨m, hn, fun i x v e1 e2 e3 => hl' i x v e1 (w i v e2) e3⟩, I.cell, I.free, I.freeC, I.pin, I.hok, hl.trans I.len⟩
theorem Inv.pins_of {pins' : List (Addr × Obj)} (I : Inv X pins σ H s) (h : ∀ p ∈ pins', s.heap.get? p.1 = some p.2 ∧ H p.1 = none ∧ p.1 ≠ X.env.locals ∧ p.1 ∉ X.fs ∧ ∀ v, p.2.data ≠ .cell v) : Inv X pins' σ H s :=
  ⟨I.ok, I.os, I.bare, I.base, I.loc, I.cell, I.free, I.freeC, fun p hp => (List.mem_append.mp hp).elim (fun z => I.pin p (List.mem_append_left _ z)) (h p), I.hok, I.len⟩
theorem nodup_ix {N : List Str} (hN : N.Nodup) {i j : Nat} {x : Str} (a : N[i]? = some x) (b : N[j]? = some x) : i = j := by
  obtain ⟨h1, e1⟩ := List.getElem?_eq_some_iff.mp a
  obtain ⟨h2, e2⟩ := List.getElem?_eq_some_iff.mp b
  exact (List.getElem_inj hN).mp (e1.trans e2.symm)
theorem store_ok2 {M : Model} {A : Around} {E : Value → Shared → Prop} {i : Nat} {x : Str} {v : V} {u : Value} {Q : Unit → Shared → Prop} (I : Inv X pins σ H s) (hN : X.N.Nodup) (hi : X.N[i]? = some x) (hx : Loc X.env.scope x) (r : RelV v u)
    (h : ∀ s', Inv X pins (σ.set i (some v)) H s' → (∃ a, Heap.SameBut a s.heap s'.heap ∧ (a = X.env.locals ∨ X.env.cells.lookup x = some a)) → Q () s') (hf : X.fn x = true ∨ X.env.scope.names.lookup x = some .local := by first | exact .inl rfl | exact .inr rfl | assumption) : wpAny M A (storeName X.env x u) Q E s := by
  obtain ⟨m, hn, hl⟩ := id I.loc
  have hcls : (X.env.scope.kind == .class || (X.env.scope.kind == .module && X.env.locals != X.env.globals)) = false := by rw [I.ok.kind]; rfl
  have hiσ : i < σ.length := by rw [I.len]; exact (List.getElem?_eq_some_iff.mp hi).1
  have cne := I.cne
  have tracked : ∀ {a : Addr} {h' : Heap}, (∃ o, s.heap.get? a = some o ∧ H a = none) → Heap.SameBut a s.heap h' → HOk X.prog X.w H h' := fun {a h'} ha hs b ob e => by
    obtain ⟨_, _, hfree⟩ := ha
    refine (I.hok b ob e).stay (fun c w' hc q => (hs.2 c ?_).trans q) (fun _ q => q) fun _ _ q => q
    rintro rfl
    rcases hc with rfl | hc
    · rw [hfree] at e; cases e
    · rw [hfree] at hc; cases hc
  rcases hx with hk | hk
  · refine wpAny_storeName_local hk hn (fun h' hn' hs => ?_) hcls
    obtain ⟨oL, _, _, hoL, _⟩ := id hn
    refine h _ ⟨I.ok, I.os, I.bare, ⟨fun b o e n hb hx => ?_, fun b o e n hb hx => ?_, I.base.free, fun b o e hx => ?_, I.base.tups, I.base.frzs, I.base.tbls⟩, ⟨_, hn', fun j y v' e1 e2 e3 => ?_⟩, fun y c e => ?_, I.free, I.freeC, fun p hp => ?_, tracked ⟨oL, hoL, I.free⟩ hs, by simpa using I.len⟩ ⟨_, hs, .inl rfl⟩
    · exact (hs.2 b (Nat.ne_of_lt (Nat.lt_of_lt_of_le (Heap.lt_size e) I.ok.above))).trans (I.base.keep b o e n hb hx)
    · obtain ⟨sl, e1⟩ := I.base.slot b o e n hb hx
      exact ⟨sl, (hs.2 b (Nat.ne_of_lt (Nat.lt_of_lt_of_le (Heap.lt_size e) I.ok.above))).trans e1⟩
    · obtain ⟨o', e1⟩ := I.base.there b o e hx
      exact ⟨o', (hs.2 b (Nat.ne_of_lt (Nat.lt_of_lt_of_le (Heap.lt_size e) I.ok.above))).trans e1⟩
    · by_cases hj : j = i
      · subst hj
        rw [hi] at e1; cases e1
        rw [List.getElem?_set_self hiσ] at e2
        cases e2
        exact ⟨u, r, .inl ⟨hk, by simp⟩⟩
      · rw [List.getElem?_set_ne (Ne.symm hj)] at e2
        obtain ⟨u', r', q⟩ := hl j y v' e1 e2 e3
        refine ⟨u', r', ?_⟩
        rcases q with ⟨k, e⟩ | ⟨k, c, e, z⟩
        · refine .inl ⟨k, ?_⟩
          have : y ≠ x := fun e => hj (nodup_ix hN e1 (e ▸ hi))
          simp [this, e]
        · exact .inr ⟨k, c, e, z.sameBut hs (cne y c e)⟩
    · obtain ⟨w', z⟩ := I.cell y c e
      exact ⟨w', z.sameBut hs (cne y c e)⟩
    · obtain ⟨e, n, ne, nf, d⟩ := I.pin p hp
      exact ⟨(hs.2 p.1 ne).trans e, n, ne, nf, d⟩
  · have hfn : X.fn x = true := by
      rcases hf with z | z
      · exact z
      · rw [z] at hk; cases hk
    obtain ⟨c, hc⟩ := I.ok.has x (.inl hk)
    obtain ⟨w', z⟩ := I.cell x c hc
    refine wpAny_storeName_cell I.ok.kind hk hc z (fun h' hc' hs => ?_)
    obtain ⟨oc, hoc, hocd⟩ := id z
    refine h { s with heap := h' } ⟨I.ok, I.os, I.bare, ⟨fun b o e n hb hx => ?_, fun b o e n hb hx => ?_, I.base.free, fun b o e hx => ?_, I.base.tups, I.base.frzs, I.base.tbls⟩, ⟨m, hn.sameBut hs (Ne.symm (cne x c hc)), fun j y v' e1 e2 e3 => ?_⟩, fun y c' e => ?_, I.free, I.freeC, fun p hp => ?_, tracked ⟨oc, hoc, I.freeC x c hc⟩ hs, by simpa using I.len⟩ ⟨c, hs, .inr hc⟩
    · exact (hs.2 b (Nat.ne_of_lt (Nat.lt_of_lt_of_le (Heap.lt_size e) (I.ok.cab x c hfn hc)))).trans (I.base.keep b o e n hb hx)
    · obtain ⟨sl, e1⟩ := I.base.slot b o e n hb hx
      exact ⟨sl, (hs.2 b (Nat.ne_of_lt (Nat.lt_of_lt_of_le (Heap.lt_size e) (I.ok.cab x c hfn hc)))).trans e1⟩
    · obtain ⟨o', e1⟩ := I.base.there b o e hx
      exact ⟨o', (hs.2 b (Nat.ne_of_lt (Nat.lt_of_lt_of_le (Heap.lt_size e) (I.ok.cab x c hfn hc)))).trans e1⟩
    · by_cases hj : j = i
      · subst hj
        rw [hi] at e1; cases e1
        rw [List.getElem?_set_self hiσ] at e2
        cases e2
        exact ⟨u, r, .inr ⟨.inl hk, c, hc, hc'⟩⟩
      · rw [List.getElem?_set_ne (Ne.symm hj)] at e2
        obtain ⟨u', r', q⟩ := hl j y v' e1 e2 e3
        refine ⟨u', r', ?_⟩
        rcases q with q | ⟨k, c', e, z'⟩
        · exact .inl q
        · refine .inr ⟨k, c', e, z'.sameBut hs ?_⟩
          rintro rfl
          exact hj (nodup_ix hN e1 (I.ok.inj _ _ _ e hc ▸ hi))
    · by_cases hcc : c' = c
      · subst hcc; exact ⟨_, hc'⟩
      · obtain ⟨w2, z2⟩ := I.cell y c' e
        exact ⟨w2, z2.sameBut hs hcc⟩
    · obtain ⟨e, n, ne, nf, d⟩ := I.pin p hp
      refine ⟨(hs.2 p.1 ?_).trans e, n, ne, nf, d⟩
      intro q
      rw [q, hoc] at e
      have q' : oc = p.2 := Option.some.inj e
      exact d w' (by rw [← q']; exact hocd)
theorem store_ok {M : Model} {A : Around} {E : Value → Shared → Prop} {i : Nat} {x : Str} {v : V} {u : Value} {Q : Unit → Shared → Prop} (I : Inv X pins σ H s) (hN : X.N.Nodup) (hi : X.N[i]? = some x) (hx : Loc X.env.scope x) (r : RelV v u)
    (h : ∀ s', Inv X pins (σ.set i (some v)) H s' → Q () s') (hf : X.fn x = true ∨ X.env.scope.names.lookup x = some .local := by first | exact .inl rfl | exact .inr rfl | assumption) : wpAny M A (storeName X.env x u) Q E s :=
  store_ok2 I hN hi hx r (fun s' I' _ => h s' I') hf
theorem Inv.call' {s' : Shared} {ch : List Addr} (I : Inv X pins σ H s) (ho : s'.os = s.os) (u : Un (frs X.stack) ch H H' s.heap s'.heap) (hok : HOk X.prog X.w H' s'.heap) (hg : AllBare s'.gens)
    (hch : ∀ b ∈ ch, (b ∈ X.ex ∨ X.s₀.heap.objs.size ≤ b) ∧ b ≠ X.env.locals ∧ (∀ x c, X.env.cells.lookup x = some c → c ≠ b) ∧ ∀ p ∈ X.pn ++ pins, p.1 ≠ b) : Inv X pins σ H' s' := by
  obtain ⟨h', g', d', t', o'⟩ := s'
  have e : o' = s.os := ho
  subst e
  exact I.call (g' := g') (t' := t') (d' := d') u hok hg hch
end
abbrev XK := Value → Option Addr → Hp → Prop
abbrev St := List (Option V)
abbrev VK := V → Hp → Prop
abbrev TE := St → Hp → VK → Prop
abbrev TT := St → Hp → (Bool → Hp → Prop) → Prop
abbrev TA := St → Hp → (List V → Hp → Prop) → Prop
structure Ends where
  nx : St → Hp → Prop
  rt : VK
  bk : St → Hp → Prop := fun _ _ => False
  ct : St → Hp → Prop := fun _ _ => False
abbrev TS := Ends → St → Hp → Prop
def EP (X : Cx) (pins : List (Addr × Obj)) (σ : St) (Q : VK) (u : Value) (s' : Shared) : Prop := ∃ v H', Inv X pins σ H' s' ∧ RelV v u ∧ Q v H'
def TP (X : Cx) (pins : List (Addr × Obj)) (σ : St) (Q : Bool → Hp → Prop) (b : Bool) (s' : Shared) : Prop := ∃ H', Inv X pins σ H' s' ∧ Q b H'
def AP (X : Cx) (pins : List (Addr × Obj)) (σ : St) (Q : List V → Hp → Prop) (us : List Value) (s' : Shared) : Prop := ∃ vs H', Inv X pins σ H' s' ∧ Vals vs us ∧ Q vs H'
def SP (X : Cx) (pins : List (Addr × Obj)) (D : Ends) (f : Flow) (s' : Shared) : Prop :=
  match f with
  | .next => ∃ σ' H', Inv X pins σ' H' s' ∧ D.nx σ' H'
  | .brk => ∃ σ' H', Inv X pins σ' H' s' ∧ D.bk σ' H'
  | .cont => ∃ σ' H', Inv X pins σ' H' s' ∧ D.ct σ' H'
  | .ret u => ∃ v σ' H', Inv X pins σ' H' s' ∧ RelV v u ∧ D.rt v H'
def PE (X : Cx) (e : Expr) (t : TE) : Prop :=
  ∀ (pins : List (Addr × Obj)) (s : Shared) (σ : St) (H : Hp) (Q : VK), Inv X pins σ H s → t σ H Q → wpAny (model X.prog X.w) X.A (eval e X.env) (EP X pins σ Q) X.xe s
def PT (X : Cx) (e : Expr) (t : TT) : Prop :=
  ∀ (pins : List (Addr × Obj)) (s : Shared) (σ : St) (H : Hp) (Q : Bool → Hp → Prop), Inv X pins σ H s → t σ H Q → wpAny (model X.prog X.w) X.A (isTrue e X.env (eval e X.env)) (TP X pins σ Q) X.xe s
def PW (X : Cx) (e : Expr) (t : TT) : Prop :=
  ∀ (whole : Sem Value) (pins : List (Addr × Obj)) (s : Shared) (σ : St) (H : Hp) (Q : Bool → Hp → Prop), Inv X pins σ H s → t σ H Q → wpAny (model X.prog X.w) X.A (isTrue e X.env whole) (TP X pins σ Q) X.xe s
theorem PW.pt {X : Cx} {e : Expr} {t : TT} (h : PW X e t) : PT X e t := h _
def PA (X : Cx) (es : List Expr) (t : TA) : Prop :=
  ∀ (pos : Pos) (pins : List (Addr × Obj)) (s : Shared) (σ : St) (H : Hp) (Q : List V → Hp → Prop), Inv X pins σ H s → t σ H Q → wpAny (model X.prog X.w) X.A (spliced (backTo pos (starEach es X.env))) (AP X pins σ Q) X.xe s
def PS (X : Cx) (st : Stmt) (t : TS) : Prop :=
  ∀ (pins : List (Addr × Obj)) (s : Shared) (σ : St) (H : Hp) (D : Ends), Inv X pins σ H s → t D σ H → wpAny (model X.prog X.w) X.A (exec st X.env) (SP X pins D) X.xe s
def PSs (X : Cx) (st : List Stmt) (t : TS) : Prop :=
  ∀ (pins : List (Addr × Obj)) (s : Shared) (σ : St) (H : Hp) (D : Ends), Inv X pins σ H s → t D σ H → wpAny (model X.prog X.w) X.A (execs st X.env) (SP X pins D) X.xe s
theorem thn {α : Type} {t : Sem α} {Q Q' : α → Shared → Prop} {M : Model} {A : Around} {E : Value → Shared → Prop} {s : Shared} (h : wpAny M A t Q E s) (hQ : ∀ a s, Q a s → Q' a s) : wpAny M A t Q' E s := wpAny_mono h hQ fun _ _ x => x
end L2
namespace L2
open PySem PySem.Spec PyProof.Rows
section
variable {X : Cx}
def tVar (i : Nat) : TE := fun σ H Q => ∃ v, σ[i]? = some (some v) ∧ Q v H
def tC (v : V) : TE := fun _ H Q => Q v H
theorem pe_var {i : Nat} {x : Str} {pos : Pos} (hN : X.N[i]? = some x) (hv : Vis X.env.scope x) (hd : (x == ("__debug__" : Str)) = false := by decide) (hcd : (x == ("__classdict__" : Str)) = false := by decide) : PE X (.Name x pos) (tVar i) := by
  intro pins s σ H Q I h
  obtain ⟨v, e, h⟩ := h
  obtain ⟨m, hn, hl⟩ := I.loc
  obtain ⟨u, r, l⟩ := hl i x v hN e hv
  have fin : EP X pins σ Q u s := ⟨v, H, I, r, h⟩
  rcases l with ⟨hk, hm⟩ | ⟨hk, c, hc, hcell⟩
  · exact wpAny_Name (wpAny_loadName_local I.ok.kind hk hn hm fin) hd
  · rcases hk with hk | hk
    · exact wpAny_Name (wpAny_loadName_cell I.ok.kind hk hc hcell fin) hd
    · exact wpAny_Name (wpAny_loadName_free I.ok.kind hk hc hcell fin hcd) hd
theorem pe_int {i j pos} : PE X (.Constant (.int i) j pos) (tC (.int i)) := fun _ _ _ H _ I h => wpAny_Constant_int ⟨.int i, H, I.tok _, ⟨_, rfl⟩, h⟩
theorem pe_bl {b j pos} : PE X (.Constant (.bool b) j pos) (tC (.bl b)) := fun _ _ _ H _ I h => Constant_bool ⟨.bl b, H, I, rfl, h⟩
theorem pe_non {j pos} : PE X (.Constant .none j pos) (tC .non) := fun _ _ _ H _ I h => Constant_none ⟨.non, H, I, rfl, h⟩
theorem pe_str {x j pos} : PE X (.Constant (.str x) j pos) (tC (.str x)) := fun _ _ _ H _ I h => Calls.Constant_str ⟨.str x, H, I.tok _, ⟨_, rfl⟩, h⟩
def Gl (X : Cx) (x : Str) : Prop := X.env.kindOf x = some .globalImplicit
theorem ld_glob {E : Value → Shared → Prop} {pins : List (Addr × Obj)} {s : Shared} {σ : St} {H : Hp} {x : Str} {u : Value} {pos : Pos} {Q : Value → Shared → Prop} (I : Inv X pins σ H s) (hg : Gl X x) (hm : X.mg x = some u) (h : Q u s)
    (hd : (x == ("__debug__" : Str)) = false := by decide) : wpAny (model X.prog X.w) X.A (eval (.Name x pos) X.env) Q E s :=
  Calls.Name_function_global I.ok.kind hg (Calls.loadGlobal_global (by rw [I.ok.glob]; exact I.mod.glob.keeps I.bk) hm h) hd
theorem ld_blt {E : Value → Shared → Prop} {pins : List (Addr × Obj)} {s : Shared} {σ : St} {H : Hp} {x : Str} {u : Value} {pos : Pos} {Q : Value → Shared → Prop} (I : Inv X pins σ H s) (hg : Gl X x) (hm : X.mg x = none) (hv : bootBuiltins x = some u) (h : Q u s)
    (hn : x ≠ "__name__" := by decide) (hd : (x == ("__debug__" : Str)) = false := by decide) : wpAny (model X.prog X.w) X.A (eval (.Name x pos) X.env) Q E s := by
  obtain ⟨mb, h1, h2⟩ := I.mod.blt
  exact Calls.Name_function_global I.ok.kind hg (Calls.loadGlobal_builtin (by rw [I.ok.glob]; exact I.mod.glob.keeps I.bk) hm (by rw [I.ok.blt]; exact h1.keeps I.bk) ((h2 x hn).trans hv) h) hd
theorem pe_glob {x : Str} {v : V} {u : Value} {pos : Pos} (hg : Gl X x) (hm : X.mg x = some u) (r : RelV v u) (hd : (x == ("__debug__" : Str)) = false := by decide) : PE X (.Name x pos) (tC v) :=
  fun _ _ _ H _ I h => ld_glob I hg hm ⟨v, H, I, r, h⟩ hd
theorem pe_bltn {x : Str} {v : V} {u : Value} {pos : Pos} (hg : Gl X x) (hm : X.mg x = none) (hv : bootBuiltins x = some u) (r : RelV v u) (hn : x ≠ "__name__" := by decide) (hd : (x == ("__debug__" : Str)) = false := by decide) : PE X (.Name x pos) (tC v) :=
  fun _ _ _ H _ I h => ld_blt I hg hm hv ⟨v, H, I, r, h⟩ hn hd
variable {a b : Expr} {ta tb : TE} {pos : Pos}
def tB (t : TE) : TT := fun σ H Q => t σ H fun x H1 => ∃ c, x = .bl c ∧ Q c H1
theorem pt_val {e : Expr} {t : TE} (h : PE X e t) (he : ∀ whole, isTrue e X.env whole = (do let v ← whole; standAt e.pos; holding [v] (truthy v)) := by intro _; rfl) : PT X e (tB t) := by
  intro pins s σ H Q I hw
  refine isTrue_plain (thn (h pins s σ H _ I hw) fun v s1 ⟨x, H1, I1, r1, q1⟩ => ?_) (he _)
  obtain ⟨d, rfl, q⟩ := q1
  cases r1
  exact wpAny_truthy_bool ⟨H1, I1, q⟩
variable {tA tB' : TT} {rest : List Expr}
def tAnd (t u : TT) : TT := fun σ H Q => t σ H fun c H1 => if c = true then u σ H1 Q else Q false H1
def tOr (t u : TT) : TT := fun σ H Q => t σ H fun c H1 => if c = true then Q true H1 else u σ H1 Q
def tNot (t : TT) : TT := fun σ H Q => t σ H fun c H1 => Q (!c) H1
theorem pw_and1 (ha : PT X a tA) : PW X (.BoolOp .And [a] pos) tA := by
  intro wh pins s σ H Q I h
  refine isTrue_and (thn (ha pins s σ H Q I h) fun c s1 e => ?_)
  cases c with
  | true => exact isTrue_and_nil e
  | false => exact e
theorem pw_or1 (ha : PT X a tA) : PW X (.BoolOp .Or [a] pos) tA := by
  intro wh pins s σ H Q I h
  refine isTrue_or (thn (ha pins s σ H Q I h) fun c s1 e => ?_)
  cases c with
  | false => exact isTrue_or_nil e
  | true => exact e
theorem pw_and (ha : PT X a tA) (hb : PW X (.BoolOp .And (b :: rest) pos) tB') : PW X (.BoolOp .And (a :: b :: rest) pos) (tAnd tA tB') := by
  intro wh pins s σ H Q I h
  refine isTrue_and (thn (ha pins s σ H _ I h) fun c s1 ⟨H1, I1, q1⟩ => ?_)
  cases c with
  | true => exact hb wh pins s1 σ H1 Q I1 q1
  | false => exact ⟨H1, I1, q1⟩
theorem pw_or (ha : PT X a tA) (hb : PW X (.BoolOp .Or (b :: rest) pos) tB') : PW X (.BoolOp .Or (a :: b :: rest) pos) (tOr tA tB') := by
  intro wh pins s σ H Q I h
  refine isTrue_or (thn (ha pins s σ H _ I h) fun c s1 ⟨H1, I1, q1⟩ => ?_)
  cases c with
  | true => exact ⟨H1, I1, q1⟩
  | false => exact hb wh pins s1 σ H1 Q I1 q1
theorem pt_not (ha : PT X a tA) : PT X (.UnaryOp .Not a pos) (tNot tA) := by
  intro pins s σ H Q I h
  exact isTrue_not (ha pins s σ H (fun c H1 => Q (!c) H1) I h)
def tAndV (ta tb : TE) : TE := fun σ H Q => ta σ H fun x H1 => ∃ c, x = .bl c ∧ if c = true then tb σ H1 Q else Q (.bl false) H1
def tOrV (ta tb : TE) : TE := fun σ H Q => ta σ H fun x H1 => ∃ c, x = .bl c ∧ if c = true then Q (.bl true) H1 else tb σ H1 Q
def tNotV (ta : TE) : TE := fun σ H Q => ta σ H fun x H1 => ∃ c, x = .bl c ∧ Q (.bl (!c)) H1
theorem pe_one {op} {t : TE} (h : PE X a t) : PE X (.BoolOp op [a] pos) t := fun pins s σ H Q I hw => BoolOp_one (h pins s σ H Q I hw)
theorem pe_and (ha : PE X a ta) (hb : PE X (.BoolOp .And (b :: rest) pos) tb) : PE X (.BoolOp .And (a :: b :: rest) pos) (tAndV ta tb) := by
  intro pins s σ H Q I h
  refine BoolOp_and (thn (ha pins s σ H _ I h) fun v s1 ⟨x, H1, I1, r1, q1⟩ => ?_)
  obtain ⟨c, rfl, q1⟩ := q1
  cases r1
  refine wpAny_truthy_bool ?_
  cases c with
  | true => exact hb pins s1 σ H1 Q I1 q1
  | false => exact ⟨.bl false, H1, I1, rfl, q1⟩
theorem pe_or (ha : PE X a ta) (hb : PE X (.BoolOp .Or (b :: rest) pos) tb) : PE X (.BoolOp .Or (a :: b :: rest) pos) (tOrV ta tb) := by
  intro pins s σ H Q I h
  refine BoolOp_or (thn (ha pins s σ H _ I h) fun v s1 ⟨x, H1, I1, r1, q1⟩ => ?_)
  obtain ⟨c, rfl, q1⟩ := q1
  cases r1
  refine wpAny_truthy_bool ?_
  cases c with
  | false => exact hb pins s1 σ H1 Q I1 q1
  | true => exact ⟨.bl true, H1, I1, rfl, q1⟩
theorem pe_not (ha : PE X a ta) : PE X (.UnaryOp .Not a pos) (tNotV ta) := by
  intro pins s σ H Q I h
  refine UnaryOp_ (thn (ha pins s σ H _ I h) fun v s1 ⟨x, H1, I1, r1, q1⟩ => ?_)
  obtain ⟨c, rfl, q1⟩ := q1
  cases r1
  exact not_of (wpAny_truthy_bool ⟨.bl (!c), H1, I1, rfl, q1⟩)
def tIf (t : TT) (ta tb : TE) : TE := fun σ H Q => t σ H fun c H1 => if c = true then ta σ H1 Q else tb σ H1 Q
theorem pe_ifExp {c : Expr} (hc : PT X c tA) (ha : PE X a ta) (hb : PE X b tb) : PE X (.IfExp c a b pos) (tIf tA ta tb) := by
  intro pins s σ H Q I h
  refine wpAny_IfExp (thn (hc pins s σ H _ I h) fun d s1 ⟨H1, I1, q1⟩ => ?_)
  cases d with
  | true => exact ha pins s1 σ H1 Q I1 q1
  | false => exact hb pins s1 σ H1 Q I1 q1
end
end L2
namespace L2
open PySem PySem.Spec PyProof.Rows
def SqL (K : PySem.W.Frag) (H : Hp) (a : Addr) (xs : List V) : Prop :=
  Rd H a (.lst xs) ∨
    ∃ (o : Obj) (its : Array Value) (n : Nat), K.lookup a = some o ∧ o.cls = .type "list" ∧ o.dict = none ∧ o.data = .seq its n ∧ its.size ≤ sizeLine ∧ Vals xs its.toList
def SqT (K : PySem.W.Frag) (H : Hp) (a : Addr) (xs : List V) : Prop :=
  Rd H a (.tup xs) ∨
    ∃ (o : Obj) (its : Array Value) (n : Nat), K.lookup a = some o ∧ o.cls = .type "tuple" ∧ o.data = .seq its n ∧ its.size ≤ sizeLine ∧ Vals xs its.toList
def absV : Value → Option V
  | .none => some .non
  | .bool b => some (.bl b)
  | .int i _ => some (.int i)
  | .str x _ => some (.str x)
  | .bytes b _ => some (.byt b)
  | .float b _ => some (.flt b)
  | .ref a => some (.ref a)
  | .type n => some (.ty n)
  | _ => none
theorem RelV.abs {x : V} {u : Value} (r : RelV x u) : absV u = some x := by
  cases x with
  | non => cases r; rfl
  | bl _ => cases r; rfl
  | int _ => obtain ⟨t, rfl⟩ := r; rfl
  | str _ => obtain ⟨t, rfl⟩ := r; rfl
  | byt _ => obtain ⟨t, rfl⟩ := r; rfl
  | flt _ => obtain ⟨t, rfl⟩ := r; rfl
  | ref _ => cases r; rfl
  | ty _ => cases r; rfl
theorem RelV.inj {x y : V} {u : Value} (r : RelV x u) (q : RelV y u) : x = y := Option.some.inj (r.abs.symm.trans q.abs)
theorem Vals.inj : ∀ {xs ys : List V} {us : List Value}, Vals xs us → Vals ys us → xs = ys
  | _, _, _, .nil, .nil => rfl
  | _, _, _, .cons r t, .cons r' t' => by rw [r.inj r', Vals.inj t t']
section
variable {X : Cx} {pins : List (Addr × Obj)} {σ : St} {H : Hp} {s : Shared} {a : Addr} {xs ys : List V}
theorem SqL.of {K : PySem.W.Frag} (h : H a = some (.lst xs)) : SqL K H a xs := .inl (.inl h)
theorem SqT.of {K : PySem.W.Frag} (h : H a = some (.tup xs)) : SqT K H a xs := .inl (.inl h)
theorem Inv.list (I : Inv X pins σ H s) (h : SqL X.K H a xs) : ∃ its : List Value, Vals xs its ∧ PlainL s.heap a its.toArray ∧ xs.length ≤ sizeLine := by
  rcases h with h | ⟨o, its, n, hk, hc, hd, hs, hz, r⟩
  · obtain ⟨z, its, n, r, e⟩ := h.ok I.hok
    exact ⟨its, r, ⟨_, n, e, rfl, rfl, rfl⟩, z⟩
  · refine ⟨its.toList, r, ⟨o, n, I.kIn a o hk, hc, hd, by simpa using hs⟩, ?_⟩
    have e := r.length
    simp only [Array.length_toList] at e
    omega
theorem Inv.tuple (I : Inv X pins σ H s) (h : SqT X.K H a xs) : ∃ its : List Value, Vals xs its ∧ IsTup s.heap a its.toArray ∧ xs.length ≤ sizeLine := by
  rcases h with h | ⟨o, its, n, hk, hc, hs, hz, r⟩
  · obtain ⟨z, its, r, p⟩ := h.ok I.hok
    exact ⟨its, r, p, z⟩
  · refine ⟨its.toList, r, ⟨o, I.kIn a o hk, hc, n, by simpa using hs⟩, ?_⟩
    have e := r.length
    simp only [Array.length_toList] at e
    omega
theorem Inv.list_inj (I : Inv X pins σ H s) (h : SqL X.K H a xs) (h' : SqL X.K H a ys) : xs = ys := by
  obtain ⟨its, r, ⟨o, n, e, _, _, d⟩, _⟩ := I.list h
  obtain ⟨its', r', ⟨o', n', e', _, _, d'⟩, _⟩ := I.list h'
  rw [e] at e'; cases e'
  rw [d] at d'
  injection d' with d1 _
  have : its = its' := by simpa using congrArg Array.toList d1
  subst this
  exact r.inj r'
theorem Inv.tuple_inj (I : Inv X pins σ H s) (h : SqT X.K H a xs) (h' : SqT X.K H a ys) : xs = ys := by
  obtain ⟨its, r, ⟨o, e, _, n, d⟩, _⟩ := I.tuple h
  obtain ⟨its', r', ⟨o', e', _, n', d'⟩, _⟩ := I.tuple h'
  rw [e] at e'; cases e'
  rw [d] at d'
  injection d' with d1 _
  have : its = its' := by simpa using congrArg Array.toList d1
  subst this
  exact r.inj r'
end
abbrev Cx.wish (X : Cx) (E : Value → Shared → Prop) : Cx := { X with xe := E }
abbrev Cx.nox (X : Cx) : Cx := X.wish fun _ _ => False
theorem Cx.Ok.wish {X : Cx} (ok : X.Ok) (E : Value → Shared → Prop) : (X.wish E).Ok :=
  ⟨ok.mod, ok.kind, ok.glob, ok.blt, ok.above, ok.inj, ok.has, ok.cab, ok.hd, ok.frames, ok.stk, ok.exf, ok.bs, ok.bsz, ok.noex, ok.exfs, ok.funs, ok.frf⟩
theorem Cx.Ok.unwish {X : Cx} {E : Value → Shared → Prop} (ok : (X.wish E).Ok) : X.Ok :=
  ⟨ok.mod, ok.kind, ok.glob, ok.blt, ok.above, ok.inj, ok.has, ok.cab, ok.hd, ok.frames, ok.stk, ok.exf, ok.bs, ok.bsz, ok.noex, ok.exfs, ok.funs, ok.frf⟩
section
variable {X : Cx} {pins : List (Addr × Obj)} {σ : St} {H : Hp} {s : Shared} {E : Value → Shared → Prop}
theorem Inv.wish (I : Inv X pins σ H s) (E : Value → Shared → Prop) : Inv (X.wish E) pins σ H s := ⟨I.ok.wish E, I.os, I.bare, I.base, I.loc, I.cell, I.free, I.freeC, I.pin, I.hok, I.len⟩
theorem Inv.unwish (I : Inv (X.wish E) pins σ H s) : Inv X pins σ H s := ⟨I.ok.unwish, I.os, I.bare, I.base, I.loc, I.cell, I.free, I.freeC, I.pin, I.hok, I.len⟩
theorem SP.unwish {D : Ends} {f : Flow} {s' : Shared} (h : SP (X.wish E) pins D f s') : SP X pins D f s' := by
  cases f with
  | next => obtain ⟨σ', H', I, q⟩ := h; exact ⟨σ', H', I.unwish, q⟩
  | brk => obtain ⟨σ', H', I, q⟩ := h; exact ⟨σ', H', I.unwish, q⟩
  | cont => obtain ⟨σ', H', I, q⟩ := h; exact ⟨σ', H', I.unwish, q⟩
  | ret u => obtain ⟨v, σ', H', I, r, q⟩ := h; exact ⟨v, σ', H', I.unwish, r, q⟩
theorem PSs.nox {st : List Stmt} {t : TS} (h : PSs X.nox st t) : PSs X st t := fun pins s σ H D I hw =>
  wpAny_mono (h pins s σ H D (I.wish _) hw) (fun _ _ q => q.unwish) fun _ _ z => False.elim z
end
section
variable {X : Cx} {st : Stmt} {rest : List Stmt} {t u : TS} {e : Expr} {te : TE} {pos : Pos}
def tNext : TS := fun D σ H => D.nx σ H
def tSeq (t u : TS) : TS := fun D σ H => t { D with nx := u D } σ H
theorem pss_nil : PSs X [] tNext := fun _ _ σ H _ I h => wpAny_execs_nil ⟨σ, H, I, h⟩
theorem pss_cons (h1 : PS X st t) (h2 : PSs X rest u) : PSs X (st :: rest) (tSeq t u) := by
  intro pins s σ H D I h
  refine wpAny_execs_cons (thn (h1 pins s σ H { D with nx := u D } I h) fun f s1 q => ?_)
  cases f with
  | next =>
    obtain ⟨σ', H', I', q⟩ := q
    exact h2 pins s1 σ' H' D I' q
  | ret v => exact q
  | brk => exact q
  | cont => exact q
theorem pss_one (h1 : PS X st t) : PSs X [st] t := by
  intro pins s σ H D I h
  refine wpAny_execs_cons (thn (h1 pins s σ H D I h) fun f s1 q => ?_)
  cases f with
  | next => exact wpAny_execs_nil q
  | ret v => exact q
  | brk => exact q
  | cont => exact q
theorem Inv.quiet {pins : List (Addr × Obj)} {σ : St} {H : Hp} {s : Shared} (I : Inv X pins σ H s) : interactive X.env = false := by simp [interactive, I.ok.kind]
def tDrop (te : TE) : TS := fun D σ H => te σ H fun _ H1 => D.nx σ H1
theorem ps_expr (he : PE X e te) (hs : swapsWith e none pos.line X.env = pure false := by rfl) : PS X (.Expr e pos) (tDrop te) := by
  intro pins s σ H D I h
  exact wpAny_Expr_any (thn (he pins s σ H _ I h) fun v s1 ⟨x, H1, I1, r1, q1⟩ => ⟨σ, H1, I1, q1⟩) I.quiet hs
def tRet (te : TE) : TS := fun D σ H => te σ H D.rt
theorem ps_ret (he : PE X e te) : PS X (.Return (some e) pos) (tRet te) := by
  intro pins s σ H D I h
  exact wpAny_Return_some (thn (he pins s σ H _ I h) fun v s1 ⟨x, H1, I1, r1, q1⟩ => ⟨x, σ, H1, I1, r1, q1⟩)
def tIfS (c : TT) (t u : TS) : TS := fun D σ H => c σ H fun b H1 => if b = true then t D σ H1 else u D σ H1
theorem ps_if {c : Expr} {a b : List Stmt} {tc : TT} (hc : PT X c tc) (ha : PSs X a t) (hb : PSs X b u) : PS X (.If c a b pos) (tIfS tc t u) := by
  intro pins s σ H D I h
  refine wpAny_If (thn (hc pins s σ H _ I h) fun d s1 ⟨H1, I1, q1⟩ => ?_)
  cases d with
  | true => exact ha pins s1 σ H1 D I1 q1
  | false => exact hb pins s1 σ H1 D I1 q1
end
abbrev TG := V → St → Hp → (St → Hp → Prop) → Prop
abbrev TGs := List V → St → Hp → (St → Hp → Prop) → Prop
def PG (X : Cx) (target : Expr) (t : TG) : Prop :=
  ∀ (pins : List (Addr × Obj)) (s : Shared) (σ : St) (H : Hp) (v : V) (u : Value) (Q : St → Hp → Prop), Inv X pins σ H s → RelV v u → t v σ H Q →
    wpAny (model X.prog X.w) X.A (assign target X.env u) (fun _ s' => ∃ σ' H', Inv X pins σ' H' s' ∧ Q σ' H') X.xe s
def PGs (X : Cx) (ts : List Expr) (t : TGs) : Prop :=
  ∀ (pins : List (Addr × Obj)) (s : Shared) (σ : St) (H : Hp) (vs : List V) (us : List Value) (Q : St → Hp → Prop), Inv X pins σ H s → Vals vs us → t vs σ H Q →
    wpAny (model X.prog X.w) X.A (assignInOrder ((assignEach ts X.env).map (·.2)) us) (fun _ s' => ∃ σ' H', Inv X pins σ' H' s' ∧ Q σ' H') X.xe s
abbrev TSet := V → V → V → Hp → (Hp → Prop) → Prop
def PSet (X : Cx) (t : TSet) : Prop :=
  ∀ (pins : List (Addr × Obj)) (s : Shared) (σ : St) (H : Hp) (o i v : V) (ov iv u : Value) (Q : Hp → Prop), Inv X pins σ H s → RelV o ov → RelV i iv → RelV v u → t o i v H Q →
    wpAny (model X.prog X.w) X.A (setItem ov iv u) (fun _ s' => ∃ H', Inv X pins σ H' s' ∧ Q H') X.xe s
section
variable {X : Cx} {pos : Pos}
def gName (i : Nat) : TG := fun v σ H Q => Q (σ.set i (some v)) H
theorem pg_name {i : Nat} {x : Str} (hN : X.N.Nodup) (hi : X.N[i]? = some x) (hx : Loc X.env.scope x) (hf : X.fn x = true ∨ X.env.scope.names.lookup x = some .local := by first | exact .inl rfl | exact .inr rfl | assumption) : PG X (.Name x pos) (gName i) := by
  intro pins s σ H v u Q I r h
  exact wpAny_assign_Name (store_ok I hN hi hx r (fun s' I' => ⟨_, H, I', h⟩) hf)
def gNil : TGs := fun vs σ H Q => vs = [] ∧ Q σ H
def gCons (t : TG) (u : TGs) : TGs := fun vs σ H Q => ∃ v r, vs = v :: r ∧ t v σ H fun σ' H' => u r σ' H' Q
theorem pgs_nil : PGs X [] gNil := by
  intro pins s σ H vs us Q I r h
  obtain ⟨e, h⟩ := h
  subst e
  cases r
  exact assignInOrder_nil ⟨σ, H, I, h⟩
theorem pgs_cons {e : Expr} {es : List Expr} {t : TG} {u : TGs} (h1 : PG X e t) (h2 : PGs X es u)
    (hs : (assignEach (e :: es) X.env).map (·.2) = assign e X.env :: (assignEach es X.env).map (·.2) := by rfl) : PGs X (e :: es) (gCons t u) := by
  intro pins s σ H vs us Q I r h
  obtain ⟨v, vr, e1, h⟩ := h
  subst e1
  cases r with
  | cons r rr =>
    rw [hs]
    refine assignInOrder_cons (thn (h1 pins s σ H _ _ _ I r h) fun _ s1 ⟨σ1, H1, I1, q1⟩ => ?_)
    exact h2 pins s1 σ1 H1 _ _ Q I1 rr q1
def gTup (K : PySem.W.Frag) (n : Nat) (t : TGs) : TG := fun v σ H Q => ∃ a xs, v = .ref a ∧ SqT K H a xs ∧ xs.length = n ∧ t xs σ H Q
theorem pg_tup {es : List Expr} {k : Nat} {t : TGs} {n : Nat} (hc : X.calm = true) (h : PGs X es t)
    (hn : (assignEach es X.env).length = n := by rfl) (hst : (assignEach es X.env).findIdx? (·.1) = none := by rfl) : PG X (.Tuple es k pos) (gTup X.K n t) := by
  intro pins s σ H v u Q I r hw
  obtain ⟨a, xs, e1, hq, hl, hw⟩ := hw
  subst e1
  cases r
  obtain ⟨its, rv, ht, hz⟩ := I.tuple hq
  refine assign_Tuple_tuple (I.ok.hd hc) ht (by simp [hn, ← hl, rv.length]) hst fun h' hx => ?_
  have I1 : Inv X pins σ H { s with heap := h' } := I.kept (t' := s.toks) fun b o e => hx b o (Nat.ne_of_lt (Heap.lt_size e)) e
  exact h pins _ σ H xs _ Q I1 (by simpa using rv) hw
def gSub (to ti : TE) (t : TSet) : TG := fun v σ H Q => to σ H fun o H1 => ti σ H1 fun i H2 => t o i v H2 fun H3 => Q σ H3
theorem pg_sub {o i : Expr} {to ti : TE} {t : TSet} (ho : PE X o to) (hi : PE X i ti) (hs : PSet X t)
    (ha : ∀ v, assign (.Subscript o i pos) X.env v = (do
      let ov ← holding [v] (eval o X.env)
      let iv ← holding [v, ov] (eval i X.env)
      standAt pos
      holding [v, ov, iv] (setItem ov iv v)
      release [v, ov, iv] []) := by intro _; rfl) : PG X (.Subscript o i pos) (gSub to ti t) := by
  intro pins s σ H v u Q I r h
  rw [ha]
  refine wpAny_bind (wpAny_holding (thn (ho pins s σ H _ I h) fun ov s1 ⟨x, H1, I1, r1, q1⟩ => ?_))
  refine wpAny_bind (wpAny_holding (thn (hi pins s1 σ H1 _ I1 q1) fun iv s2 ⟨y, H2, I2, r2, q2⟩ => ?_))
  refine wpAny_bind (wpAny_standAt (wpAny_bind (wpAny_holding (thn (hs pins s2 σ H2 x y v ov iv u _ I2 r1 r2 r q2) fun _ s3 ⟨H3, I3, q3⟩ => ?_))))
  exact wpAny_release ⟨σ, H3, I3, q3⟩
def tAsg (te : TE) (g : TG) : TS := fun D σ H => te σ H fun x H1 => g x σ H1 D.nx
theorem ps_asg {tg e : Expr} {te : TE} {g : TG} (he : PE X e te) (hg : PG X tg g) (hs : swapsWithSole [tg] e pos.line X.env = pure false := by rfl) (hw : swappedStores [tg] e X.env = pure none := by rfl)
    (h1 : (assignEach [tg] X.env).map (·.2) = [assign tg X.env] := by rfl) : PS X (.Assign [tg] e pos) (tAsg te g) := by
  intro pins s σ H D I h
  refine wpAny_Assign_stores (thn (he pins s σ H _ I h) fun v s1 ⟨x, H1, I1, r1, q1⟩ => ?_) hs hw
  rw [h1]
  exact thn (hg pins s1 σ H1 x v _ I1 r1 q1) fun _ s2 q => q
theorem ps_set {i : Nat} {x : Str} {e : Expr} {te : TE} {pos' : Pos} (hN : X.N.Nodup) (hi : X.N[i]? = some x) (hx : Loc X.env.scope x) (he : PE X e te) (hs : swapsWith e (some (.Name x pos')) pos.line X.env = pure false := by rfl) (hf : X.fn x = true ∨ X.env.scope.names.lookup x = some .local := by first | exact .inl rfl | exact .inr rfl | assumption) :
    PS X (.Assign [.Name x pos'] e pos) (tAsg te (gName i)) := by
  intro pins s σ H D I h
  refine wpAny_Assign_Name (thn (he pins s σ H _ I h) fun v s1 ⟨y, H1, I1, r1, q1⟩ => ?_) hs
  exact store_ok I1 hN hi hx r1 (fun s2 I2 => ⟨_, H1, I2, q1⟩) hf
end
section
variable {X : Cx} {pos : Pos}
def tWhile (c : TT) (tb : TS) : TS := fun D σ H => ∃ W : Nat → St → Hp → Prop, (∃ m, W m σ H) ∧ ∀ m σ H, W m σ H →
  c σ H fun b H1 => if b = true then ∃ N : St → Hp → Prop, (∀ σ' H', N σ' H' → ∃ m', m' < m ∧ W m' σ' H') ∧ tb { D with nx := N, ct := N, bk := D.nx } σ H1 else D.nx σ H1
theorem ps_while {c : Expr} {body : List Stmt} {tc : TT} {tb : TS} (hp : PassesOwn (model X.prog X.w) X.A X.env X.xe) (hc : PT X c tc) (hb : PSs X body tb) : PS X (.While c body [] pos) (tWhile tc tb) := by
  intro pins s σ H D I h
  obtain ⟨W, ⟨m0, w0⟩, turn⟩ := h
  refine wpAny_While (codeAny_whileLoop (fun n s' => ∃ σ' H', Inv X pins σ' H' s' ∧ W n σ' H') ?_ m0 ⟨σ, H, I, w0⟩)
  rintro n s1 ⟨σ1, H1, I1, w1⟩
  refine wpAny_passesOwn hp (thn (hc pins s1 σ1 H1 _ I1 (turn n σ1 H1 w1)) fun b s2 ⟨H2, I2, q2⟩ => ?_)
  cases b with
  | true =>
    obtain ⟨N, hN, q2⟩ := q2
    rw [if_pos rfl]
    refine wpAny_passesOwn hp (thn (hb pins s2 σ1 H2 _ I2 q2) fun f s3 q3 => ?_)
    cases f with
    | next =>
      obtain ⟨σ3, H3, I3, n3⟩ := q3
      obtain ⟨m', hm, w3⟩ := hN σ3 H3 n3
      exact ⟨m', hm, σ3, H3, I3, w3⟩
    | cont =>
      obtain ⟨σ3, H3, I3, n3⟩ := q3
      obtain ⟨m', hm, w3⟩ := hN σ3 H3 n3
      exact ⟨m', hm, σ3, H3, I3, w3⟩
    | brk => exact q3
    | ret v => exact q3
  | false =>
    rw [if_neg Bool.false_ne_true]
    exact wpAny_execs_nil ⟨σ1, H2, I2, q2⟩
end
structure It where
  go : Nat → Hp → Prop
  yld : Nat → Hp → V → Hp → Prop
  stop : Nat → Hp → Prop
def FpOk (X : Cx) (pins : List (Addr × Obj)) (H : Hp) (b : Addr) : Prop :=
  H b = none ∧ b ≠ X.env.locals ∧ b ∉ X.fs ∧ (b ∈ X.ex ∨ X.s₀.heap.objs.size ≤ b) ∧ (∀ x c, X.env.cells.lookup x = some c → c ≠ b) ∧ ∀ p ∈ X.pn ++ pins, p.1 ≠ b
theorem Inv.fpOk {X : Cx} {pins : List (Addr × Obj)} {σ : St} {H H' : Hp} {s : Shared} {b : Addr} (I : Inv X pins σ H s) (hb : s.heap.objs.size ≤ b) (hn : H' b = none) : FpOk X pins H' b := by
  refine ⟨hn, Nat.ne_of_gt (Nat.lt_of_lt_of_le I.lt hb), I.nofs hb, .inr (Nat.le_trans I.sz hb), fun x c e z => ?_, fun p hp z => ?_⟩
  · obtain ⟨v, q⟩ := I.cell x c e
    exact absurd (Nat.lt_of_lt_of_le q.lt (by rw [z]; exact hb)) (Nat.lt_irrefl _)
  · exact absurd (Nat.lt_of_lt_of_le (Heap.lt_size (I.pin p hp).1) (by rw [z]; exact hb)) (Nat.lt_irrefl _)
structure Turn (P : Program) (w : World) (K : PySem.W.Frag) (tg : Expr) (J : It) (fp : List Addr) (it : Addr) (tn : Nat → Heap → Prop) : Prop where
  mem : it ∈ fp
  obj : ∀ i h, tn i h → ∀ b ∈ fp, ∃ o, h.get? b = some o ∧ ∀ v, o.data ≠ .cell v
  keep : ∀ i h h', tn i h → (∀ b ∈ fp, ∀ o, h.get? b = some o → h'.get? b = some o) → tn i h'
  item : ∀ (X : Cx), X.prog = P → X.w = w → X.K = K → X.calm = true → ∀ (i : Nat) (pins : List (Addr × Obj)) (s : Shared) (σ : St) (H : Hp) (E : Value → Shared → Prop), Inv X pins σ H s → (∀ b ∈ fp, FpOk X pins H b) → tn i s.heap → J.go i H →
    wpAny (model P w) X.A (pyNext (.ref it)) (fun r s1 => ∃ u, r = some u ∧
      wpAny (model P w) X.A (letOwnedTupleGo tg (.ref it) u) (fun _ s2 => ∃ x H', Inv X pins σ H' s2 ∧ RelV x u ∧ J.yld i H x H' ∧ tn (i + 1) s2.heap ∧ ∀ b ∈ fp, H' b = none) E s1) E s
  done : ∀ (X : Cx), X.prog = P → X.w = w → X.K = K → X.calm = true → ∀ (i : Nat) (pins : List (Addr × Obj)) (s : Shared) (σ : St) (H : Hp) (E : Value → Shared → Prop), Inv X pins σ H s → (∀ b ∈ fp, FpOk X pins H b) → tn i s.heap → J.stop i H →
    wpAny (model P w) X.A (pyNext (.ref it)) (fun r s1 => r = none ∧ Inv X pins σ H s1) E s
  self : ∀ (A : Around) (i : Nat) (s : Shared) (Q : Value → Shared → Prop) (E : Value → Shared → Prop), tn i s.heap → Q (.ref it) s → wpAny (model P w) A (pyIter (.ref it)) Q E s
abbrev TI := St → Hp → (It → Hp → Prop) → Prop
def PIE (X : Cx) (pins : List (Addr × Obj)) (σ : St) (tg : Expr) (R : It → Hp → Prop) (itv : Value) (s2 : Shared) : Prop :=
  ∃ (it : Addr) (fp : List Addr) (tn : Nat → Heap → Prop) (J : It) (H' : Hp), itv = .ref it ∧ Inv X pins σ H' s2 ∧ Turn X.prog X.w X.K tg J fp it tn ∧ tn 0 s2.heap ∧ (∀ b ∈ fp, FpOk X pins H' b) ∧ R J H'
def PI (X : Cx) (tg iter : Expr) (wi : TI) : Prop :=
  ∀ (pins : List (Addr × Obj)) (s : Shared) (σ : St) (H : Hp) (R : It → Hp → Prop), Inv X pins σ H s → wi σ H R →
    wpAny (model X.prog X.w) X.A (eval iter X.env) (fun v s1 => wpAny (model X.prog X.w) X.A (pyIter v) (PIE X pins σ tg R) X.xe s1) X.xe s
theorem go_of {M : Model} {A : Around} {E : Value → Shared → Prop} {s : Shared} {tg : Expr} {it : Addr} {u : Value} {o : Obj} {n : String} {vs : Array Value} {Q : Unit → Shared → Prop} (ho : s.heap.get? it = some o) (hc : o.cls = .type n) (hd : o.data = .fields vs)
    (hn : ["enumerate", "zip", "dict_itemiterator", "dict_reverseitemiterator", "odict_iterator", "itertools.zip_longest", "itertools.pairwise"].contains n = false) (hQ : Q () s) : wpAny M A (letOwnedTupleGo tg (.ref it) u) Q E s := by
  unfold letOwnedTupleGo
  cases tg <;> first
    | exact wpAny_pure hQ
    | (cases u <;> first
        | exact wpAny_pure hQ
        | (refine wpAny_bind (wpAny_load ho ?_)
           rw [hc, hd]
           show wpAny M A (if (["enumerate", "zip", "dict_itemiterator", "dict_reverseitemiterator", "odict_iterator", "itertools.zip_longest", "itertools.pairwise"].contains n && vs[0]? == some (rawInt _)) = true then _ else _) Q E s
           rw [if_neg (by intro h; rw [hn, Bool.false_and] at h; cases h)]
           exact wpAny_pure hQ))
def Itl (K : PySem.W.Frag) (a : Addr) : It :=
  ⟨fun i H => ∃ xs x, SqL K H a xs ∧ xs[i]? = some x, fun i H x H' => H' = H ∧ ∀ xs, SqL K H a xs → xs[i]? = some x, fun i H => ∃ xs, SqL K H a xs ∧ xs.length ≤ i⟩
def Itt (K : PySem.W.Frag) (a : Addr) : It :=
  ⟨fun i H => ∃ xs x, SqT K H a xs ∧ xs[i]? = some x, fun i H x H' => H' = H ∧ ∀ xs, SqT K H a xs → xs[i]? = some x, fun i H => ∃ xs, SqT K H a xs ∧ xs.length ≤ i⟩
def Itr (lo : Int) (n : Nat) : It := ⟨fun i _ => i < n, fun i H x H' => H' = H ∧ x = .int (lo + i), fun i _ => n ≤ i⟩
theorem turn_list {P : Program} {w : World} {K : PySem.W.Frag} {tg : Expr} (a it : Addr) : Turn P w K tg (Itl K a) [it] it (fun i h => h.IsListIter it a i) where
  mem := by simp
  obj := fun i h st b hb => by
    have e : b = it := by simpa using hb
    subst e
    obtain ⟨o, e, c, d⟩ := st
    exact ⟨o, e, fun v z => by rw [d] at z; cases z⟩
  keep := fun i h h' st k => st.at fun o e => k it (by simp) o e
  item := by
    intro X hP hw hK hc i pins s σ H E I hf st hg
    subst hP hw hK
    obtain ⟨xs, x, hq, hx⟩ := hg
    obtain ⟨its, rv, p, hz⟩ := I.list hq
    obtain ⟨u, hu, ru⟩ := rv.get hx
    obtain ⟨f0, f1, f2, f3, f4, f5⟩ := hf it (by simp)
    refine wpAny_pyNext_list_item st p.isList (x := u) (by simpa using hu) fun h' st' sb => ?_
    have I1 : Inv X pins σ H { s with heap := h' } := I.turned (t' := s.toks) (fun b o hb e => (sb.2 b hb).trans e) f0 f1 f3 f4 f5
    obtain ⟨o, e, c, d⟩ := id st'
    exact ⟨u, rfl, go_of (s := { s with heap := h' }) e c d (by decide) ⟨x, H, I1, ru, ⟨rfl, fun ys hy => by rw [I.list_inj hy hq]; exact hx⟩, st', fun b hb => (hf b hb).1⟩⟩
  done := by
    intro X hP hw hK hc i pins s σ H E I hf st hg
    subst hP hw hK
    obtain ⟨xs, hq, hx⟩ := hg
    obtain ⟨its, rv, p, hz⟩ := I.list hq
    obtain ⟨f0, f1, f2, f3, f4, f5⟩ := hf it (by simp)
    have hl := rv.length
    exact wpAny_pyNext_list_end (I.ok.hd hc) st p.isList (by simp; omega) fun h' eb => ⟨rfl, I.turned (t' := s.toks) (fun b o hb e => eb b o hb e) f0 f1 f3 f4 f5⟩
  self := fun _ _ _ _ _ st h => wpAny_pyIter_listiter st h
theorem turn_tuple {P : Program} {w : World} {K : PySem.W.Frag} {tg : Expr} (a it : Addr) : Turn P w K tg (Itt K a) [it] it (fun i h => h.IsTupleIter it a i) where
  mem := by simp
  obj := fun i h st b hb => by
    have e : b = it := by simpa using hb
    subst e
    obtain ⟨o, e, c, d⟩ := st
    exact ⟨o, e, fun v z => by rw [d] at z; cases z⟩
  keep := fun i h h' st k => st.at fun o e => k it (by simp) o e
  item := by
    intro X hP hw hK hc i pins s σ H E I hf st hg
    subst hP hw hK
    obtain ⟨xs, x, hq, hx⟩ := hg
    obtain ⟨its, rv, p, hz⟩ := I.tuple hq
    obtain ⟨u, hu, ru⟩ := rv.get hx
    obtain ⟨f0, f1, f2, f3, f4, f5⟩ := hf it (by simp)
    refine wpAny_pyNext_tuple_item st (show s.heap.IsTuple a its.toArray from p) (x := u) (by simpa using hu) fun h' st' sb => ?_
    have I1 : Inv X pins σ H { s with heap := h' } := I.turned (t' := s.toks) (fun b o hb e => (sb.2 b hb).trans e) f0 f1 f3 f4 f5
    obtain ⟨o, e, c, d⟩ := id st'
    exact ⟨u, rfl, go_of (s := { s with heap := h' }) e c d (by decide) ⟨x, H, I1, ru, ⟨rfl, fun ys hy => by rw [I.tuple_inj hy hq]; exact hx⟩, st', fun b hb => (hf b hb).1⟩⟩
  done := by
    intro X hP hw hK hc i pins s σ H E I hf st hg
    subst hP hw hK
    obtain ⟨xs, hq, hx⟩ := hg
    obtain ⟨its, rv, p, hz⟩ := I.tuple hq
    obtain ⟨f0, f1, f2, f3, f4, f5⟩ := hf it (by simp)
    have hl := rv.length
    exact wpAny_pyNext_tuple_end (I.ok.hd hc) st (show s.heap.IsTuple a its.toArray from p) (by simp; omega) fun h' eb => ⟨rfl, I.turned (t' := s.toks) (fun b o hb e => eb b o hb e) f0 f1 f3 f4 f5⟩
  self := fun _ _ _ _ _ st h => wpAny_pyIter_tupleiter st h
theorem turn_range {P : Program} {w : World} {K : PySem.W.Frag} {tg : Expr} (it : Addr) (lo : Int) (n : Nat) : Turn P w K tg (Itr lo n) [it] it (fun i h => IsRangeIter h it (lo + (i : Nat) * 1) ((n : Int) - (i : Nat)) 1) where
  mem := by simp
  obj := fun i h st b hb => by
    have e : b = it := by simpa using hb
    subst e
    exact ⟨_, st, fun v z => by
      have z' : Data.fields _ = Data.cell v := z
      cases z'⟩
  keep := fun i h h' st k => k it (by simp) _ st
  item := by
    intro X hP hw hK hc i pins s σ H E I hf st hg
    subst hP hw hK
    obtain ⟨f0, f1, f2, f3, f4, f5⟩ := hf it (by simp)
    have W := Walks.range (prog := X.prog) (w := X.w) (I.ok.hd hc) it lo 1 n
    refine W.item i s _ _ hg st fun v h' tk hv st' kk => ?_
    obtain ⟨t, rfl⟩ := hv
    have I1 : Inv X pins σ H { s with heap := h', toks := tk } := I.turned (fun b o hb e => kk b o (by simpa using hb) e) f0 f1 f3 f4 f5
    refine ⟨_, rfl, go_of (s := { s with heap := h', toks := tk }) (n := "range_iterator") st' rfl rfl (by decide) ⟨.int (lo + i), H, I1, ⟨t, ?_⟩, ⟨rfl, rfl⟩, st', fun b hb => (hf b hb).1⟩⟩
    rw [Int.mul_one]
  done := by
    intro X hP hw hK hc i pins s σ H E I hf st hg
    subst hP hw hK
    obtain ⟨f0, f1, f2, f3, f4, f5⟩ := hf it (by simp)
    exact wpAny_pyNext_range_end (I.ok.hd hc) st (by have : n ≤ i := hg; omega) fun h' eb => ⟨rfl, I.turned (t' := s.toks) (fun b o hb e => eb b o hb e) f0 f1 f3 f4 f5⟩
  self := fun _ _ _ _ _ st h => wpAny_pyIter_rangeiter st h
end L2
namespace L2
open PySem PySem.Spec PyProof.Rows
section
variable {X : Cx} {tg : Expr}
theorem range_it {pins : List (Addr × Obj)} {σ : St} {H : Hp} {s : Shared} {R : It → Hp → Prop} {E : Value → Shared → Prop} {lo hi : Int} {t u v : Tok} {tk : Nat} (I : Inv X pins σ H s) (h1 : -(2 ^ 62) ≤ lo) (h2 : lo < 2 ^ 62) (h3 : -(2 ^ 62) ≤ hi) (h4 : hi < 2 ^ 62)
    (q : R (Itr lo (hi - lo).toNat) H) : wpAny (model X.prog X.w) X.A (pyIter (.ref s.heap.objs.size)) (PIE X pins σ tg R) E { s with heap := s.heap.push { cls := .type "range", data := .fields #[.int lo t, .int hi u, .int 1 v] }, toks := tk } := by
  refine wpAny_pyIter_range (IsRange.new ..) (small_one h1 h2 h3 h4) ?_
  have I1 : Inv X pins σ H { s with heap := s.heap.push { cls := .type "range", data := .fields #[.int lo t, .int hi u, .int 1 v] }, toks := tk } := I.kept fun b o e => Heap.get?_push_of_some _ e
  refine ⟨(s.heap.push { cls := .type "range", data := .fields #[.int lo t, .int hi u, .int 1 v] }).objs.size, [(s.heap.push { cls := .type "range", data := .fields #[.int lo t, .int hi u, .int 1 v] }).objs.size], _, _, H, rfl,
    I1.kept (t' := tk) fun b o e => Heap.get?_push_of_some _ e, turn_range _ lo (hi - lo).toNat, ?_, fun b hb => ?_, q⟩
  · have e1 : lo + ((0 : Nat) : Int) * 1 = lo := by simp
    have e2 : (((hi - lo).toNat : Nat) : Int) - ((0 : Nat) : Int) = Builtin.Range.rangeSize lo hi 1 := by rw [rangeSize_one]; split <;> omega
    show IsRangeIter _ _ (lo + ((0 : Nat) : Int) * 1) ((((hi - lo).toNat : Nat) : Int) - ((0 : Nat) : Int)) 1
    rw [e1, e2]
    exact Heap.get?_push_size _ rfl
  · have e : b = (s.heap.push { cls := .type "range", data := .fields #[.int lo t, .int hi u, .int 1 v] }).objs.size := by simpa using hb
    subst e
    exact I1.fpOk (Nat.le_refl _) (I1.hok.fresh (Nat.le_refl _))
def iRng1 (ta : TA) : TI := fun σ H R => ta σ H fun vs H1 => ∃ j : Int, vs = [.int j] ∧ -(2 ^ 62) ≤ j ∧ j < 2 ^ 62 ∧ R (Itr 0 j.toNat) H1
theorem pi_range1 {a : Expr} {ta : TA} {p pos : Pos} (hg : Gl X "range") (hm : X.mg "range" = none) (ha : PA X [a] ta) (hs : starEach [a] X.env = [(false, eval a X.env)] := by rfl) : PI X tg (.Call (.Name "range" p) [a] [] pos) (iRng1 ta) := by
  intro pins s σ H R I h
  refine Call_ (ld_blt I hg hm boot_range (PyProof.Rows.callWith_type1 (thn (ha pos pins s σ H _ I h) fun us s1 ⟨vs, H1, I1, r1, q1⟩ => ?_) hs rfl))
  obtain ⟨j, e, q1, q2, q⟩ := q1
  subst e
  cases r1 with
  | cons r rr =>
    cases rr
    obtain ⟨t, rfl⟩ := r
    exact call_range_1 (range_it I1 (by omega) (by omega) q1 q2 (by simpa using q))
def tFor (wi : TI) (g : TG) (tb : TS) : TS := fun D σ H => wi σ H fun J H1 => ∃ W : Nat → Nat → St → Hp → Prop, (∃ m, W 0 m σ H1) ∧ ∀ i m σ H, W i m σ H →
  (J.stop i H ∧ D.nx σ H) ∨ (J.go i H ∧ ∃ N : St → Hp → Prop, (∀ σ' H', N σ' H' → ∃ m', m' < m ∧ W (i + 1) m' σ' H') ∧ ∀ x H', J.yld i H x H' → g x σ H' fun σ2 H2 => tb { D with nx := N, ct := N, bk := D.nx } σ2 H2)
def pinsAt (fp : List Addr) (h : Heap) : List (Addr × Obj) := fp.filterMap fun b => (h.get? b).map fun o => (b, o)
theorem mem_pinsAt {fp : List Addr} {h : Heap} {b : Addr} {o : Obj} (hb : b ∈ fp) (e : h.get? b = some o) : (b, o) ∈ pinsAt fp h := List.mem_filterMap.mpr ⟨b, hb, by rw [e]; rfl⟩
theorem of_pinsAt {fp : List Addr} {h : Heap} {p : Addr × Obj} (hp : p ∈ pinsAt fp h) : p.1 ∈ fp ∧ h.get? p.1 = some p.2 := by
  obtain ⟨b, hb, e⟩ := List.mem_filterMap.mp hp
  cases q : h.get? b with
  | none => rw [q] at e; cases e
  | some o =>
    rw [q] at e
    have e' : (b, o) = p := Option.some.inj e
    subst e'
    exact ⟨hb, q⟩
theorem Inv.pinned {pins : List (Addr × Obj)} {σ : St} {H : Hp} {s : Shared} {fp : List Addr} (I : Inv X pins σ H s) (hf : ∀ b ∈ fp, FpOk X pins H b) (ho : ∀ b ∈ fp, ∃ o, s.heap.get? b = some o ∧ ∀ v, o.data ≠ .cell v) : Inv X (pins ++ pinsAt fp s.heap) σ H s :=
  I.pins_of fun p hp => (List.mem_append.mp hp).elim (fun z => I.pin p (List.mem_append_right _ z)) fun z => by
    obtain ⟨hb, e⟩ := of_pinsAt z
    obtain ⟨f0, f1, f2, _⟩ := hf p.1 hb
    obtain ⟨o, e', d⟩ := ho p.1 hb
    rw [e] at e'; cases e'
    exact ⟨e, f0, f1, f2, d⟩
theorem Inv.unpinned {pins pl : List (Addr × Obj)} {σ : St} {H : Hp} {s : Shared} (I : Inv X (pins ++ pl) σ H s) : Inv X pins σ H s := I.pins_of fun p hp => I.pin p (List.mem_append_right _ (List.mem_append_left _ hp))
theorem ps_for {iter : Expr} {body : List Stmt} {wi : TI} {g : TG} {tb : TS} {pos : Pos} (hp : PassesOwn (model X.prog X.w) X.A X.env X.xe) (hc : X.calm = true) (hi : PI X tg iter wi) (hg : PG X tg g) (hb : PSs X body tb)
    (hs : ∀ x, foldedSetIterable iter X.env x = pure x := by intro _; rfl) : PS X (.For tg iter body [] pos) (tFor wi g tb) := by
  intro pins s σ H D I h
  refine wpAny_For (thn (hi pins s σ H _ I h) fun v s1 h1 => thn h1 fun itv s2 h2 => ?_) hs
  obtain ⟨it, fp, tn, J, H2, e, I2, T, st2, f2, W, ⟨m0, w0⟩, turn⟩ := h2
  subst e
  -- what stays true of the iterator's objects through the loop
  have stat : ∀ {H' : Hp}, (∀ b ∈ fp, H' b = none) → ∀ b ∈ fp, FpOk X pins H' b := fun hn b hb => ⟨hn b hb, (f2 b hb).2⟩
  refine codeAny_forLoop_any (fun n s' => ∃ i σ' H', Inv X pins σ' H' s' ∧ tn i s'.heap ∧ (∀ b ∈ fp, H' b = none) ∧ W i n σ' H') ?_ m0 ⟨0, σ, H2, I2, st2, fun b hb => (f2 b hb).1, w0⟩
  rintro n s3 ⟨i, σ3, H3, I3, st3, fr3, w3⟩
  rcases turn i n σ3 H3 w3 with ⟨stop, qn⟩ | ⟨go, N, hN, step⟩
  · refine wpAny_passesOwn hp (thn (T.done X rfl rfl rfl hc i pins s3 σ3 H3 X.xe I3 (stat fr3) st3 stop) fun r s4 ⟨hr, I4⟩ => ?_)
    subst hr
    exact wpAny_execs_nil ⟨σ3, H3, I4, qn⟩
  · refine wpAny_passesOwn hp (thn (T.item X rfl rfl rfl hc i pins s3 σ3 H3 X.xe I3 (stat fr3) st3 go) fun r s4 ⟨u, hr, h4⟩ => ?_)
    subst hr
    refine wpAny_passesOwn hp (thn h4 fun _ s5 ⟨x, H5, I5, r5, y5, st5, fr5⟩ => ?_)
    have I5' := I5.pinned (stat fr5) (T.obj _ _ st5)
    refine wpAny_passesOwn hp (thn (hg _ s5 σ3 H5 x u _ I5' r5 (step x H5 y5)) fun _ s6 ⟨σ6, H6, I6, q6⟩ => ?_)
    refine wpAny_passesOwn hp (thn (hb _ s6 σ6 H6 _ I6 q6) fun f s7 q7 => ?_)
    have again : ∀ {σ7 : St} {H7 : Hp}, Inv X (pins ++ pinsAt fp s5.heap) σ7 H7 s7 → N σ7 H7 → ∃ m, m < n ∧ ∃ i σ' H', Inv X pins σ' H' s7 ∧ tn i s7.heap ∧ (∀ b ∈ fp, H' b = none) ∧ W i m σ' H' := fun {σ7 H7} I7 n7 => by
      obtain ⟨m', hm, w7⟩ := hN σ7 H7 n7
      refine ⟨m', hm, i + 1, σ7, H7, I7.unpinned, T.keep _ _ _ st5 fun b hb o e => (I7.pin (b, o) (List.mem_append_right _ (List.mem_append_right _ (mem_pinsAt hb e)))).1, fun b hb => ?_, w7⟩
      obtain ⟨o, e, d⟩ := T.obj _ _ st5 b hb
      exact (I7.pin (b, o) (List.mem_append_right _ (List.mem_append_right _ (mem_pinsAt hb e)))).2.1
    cases f with
    | next => obtain ⟨σ7, H7, I7, n7⟩ := q7; exact again I7 n7
    | cont => obtain ⟨σ7, H7, I7, n7⟩ := q7; exact again I7 n7
    | brk => obtain ⟨σ7, H7, I7, q7⟩ := q7; exact ⟨σ7, H7, I7.unpinned, q7⟩
    | ret v => obtain ⟨x7, σ7, H7, I7, r7, q7⟩ := q7; exact ⟨x7, σ7, H7, I7.unpinned, r7, q7⟩
end
theorem for_list {K : PySem.W.Frag} {a : Addr} {xs : List V} {g : TG} {tb : TS} {D : Ends} {σ : St} {H : Hp} (Pv : Nat → St → Hp → Prop) (h0 : Pv 0 σ H) (hl : ∀ i σ H, i ≤ xs.length → Pv i σ H → SqL K H a xs)
    (hs : ∀ i x σ H, xs[i]? = some x → Pv i σ H → g x σ H fun σ2 H2 => tb { D with nx := Pv (i + 1), ct := Pv (i + 1), bk := D.nx } σ2 H2) (hd : ∀ σ H, Pv xs.length σ H → D.nx σ H) :
    ∃ W : Nat → Nat → St → Hp → Prop, (∃ m, W 0 m σ H) ∧ ∀ i m σ H, W i m σ H →
      ((Itl K a).stop i H ∧ D.nx σ H) ∨ ((Itl K a).go i H ∧ ∃ N : St → Hp → Prop, (∀ σ' H', N σ' H' → ∃ m', m' < m ∧ W (i + 1) m' σ' H') ∧ ∀ x H', (Itl K a).yld i H x H' → g x σ H' fun σ2 H2 => tb { D with nx := N, ct := N, bk := D.nx } σ2 H2) := by
  refine ⟨fun i m σ H => m = xs.length - i ∧ i ≤ xs.length ∧ Pv i σ H, ⟨xs.length, by simp, Nat.zero_le _, h0⟩, ?_⟩
  rintro i m σ H ⟨rfl, hi, p⟩
  have q := hl i σ H hi p
  by_cases hlt : i < xs.length
  · refine .inr ⟨⟨xs, xs[i], q, by simp [hlt]⟩, Pv (i + 1), fun σ' H' p' => ⟨xs.length - (i + 1), by omega, rfl, hlt, p'⟩, fun x H' y => ?_⟩
    obtain ⟨e, y⟩ := y
    subst e
    exact hs i x σ _ (y xs q) p
  · have e : i = xs.length := by omega
    subst e
    exact .inl ⟨⟨xs, q, Nat.le_refl _⟩, hd σ H p⟩
theorem for_range {lo : Int} {n : Nat} {g : TG} {tb : TS} {D : Ends} {σ : St} {H : Hp} (Pv : Nat → St → Hp → Prop) (h0 : Pv 0 σ H)
    (hs : ∀ i σ H, i < n → Pv i σ H → g (.int (lo + i)) σ H fun σ2 H2 => tb { D with nx := Pv (i + 1), ct := Pv (i + 1), bk := D.nx } σ2 H2) (hd : ∀ σ H, Pv n σ H → D.nx σ H) :
    ∃ W : Nat → Nat → St → Hp → Prop, (∃ m, W 0 m σ H) ∧ ∀ i m σ H, W i m σ H →
      ((Itr lo n).stop i H ∧ D.nx σ H) ∨ ((Itr lo n).go i H ∧ ∃ N : St → Hp → Prop, (∀ σ' H', N σ' H' → ∃ m', m' < m ∧ W (i + 1) m' σ' H') ∧ ∀ x H', (Itr lo n).yld i H x H' → g x σ H' fun σ2 H2 => tb { D with nx := N, ct := N, bk := D.nx } σ2 H2) := by
  refine ⟨fun i m σ H => m = n - i ∧ i ≤ n ∧ Pv i σ H, ⟨n, by simp, Nat.zero_le _, h0⟩, ?_⟩
  rintro i m σ H ⟨rfl, hi, p⟩
  by_cases hlt : i < n
  · refine .inr ⟨hlt, Pv (i + 1), fun σ' H' p' => ⟨n - (i + 1), by omega, rfl, hlt, p'⟩, fun x H' y => ?_⟩
    obtain ⟨e, y⟩ := y
    subst e y
    exact hs i σ _ hlt p
  · have e : i = n := by omega
    subst e
    exact .inl ⟨Nat.le_refl _, hd σ H p⟩
end L2
namespace L2
open PySem PySem.Spec PyProof.Rows
abbrev R2 := V → V → Hp → VK → Prop
def OpR (X : Cx) (f : Value → Value → Sem Value) (r : R2) : Prop :=
  ∀ (pins : List (Addr × Obj)) (s : Shared) (σ : St) (H : Hp) (x y : V) (v u : Value) (Q : VK), Inv X pins σ H s → RelV x v → RelV y u → r x y H Q →
    wpAny (model X.prog X.w) X.A (f v u) (EP X pins σ Q) X.xe s
def UnR (X : Cx) (f : Value → Sem Value) (r : V → Hp → VK → Prop) : Prop :=
  ∀ (pins : List (Addr × Obj)) (s : Shared) (σ : St) (H : Hp) (x : V) (v : Value) (Q : VK), Inv X pins σ H s → RelV x v → r x H Q →
    wpAny (model X.prog X.w) X.A (f v) (EP X pins σ Q) X.xe s
def CallR (X : Cx) (f : Value) (r : List V → Hp → VK → Prop) : Prop :=
  ∀ (pins : List (Addr × Obj)) (s : Shared) (σ : St) (H : Hp) (xs : List V) (us : List Value) (Q : VK), Inv X pins σ H s → Vals xs us → r xs H Q →
    wpAny (model X.prog X.w) X.A (call f us) (EP X pins σ Q) X.xe s
def tOp (r : R2) (ta tb : TE) : TE := fun σ H Q => ta σ H fun x H1 => tb σ H1 fun y H2 => r x y H2 Q
def tUn (r : V → Hp → VK → Prop) (ta : TE) : TE := fun σ H Q => ta σ H fun x H1 => r x H1 Q
def rI (C : Int → Int → Prop) (g : Int → Int → V) : R2 := fun x y H Q => ∃ i j, x = .int i ∧ y = .int j ∧ C i j ∧ Q (g i j) H
def rI0 (g : Int → Int → V) : R2 := fun x y H Q => ∃ i j, x = .int i ∧ y = .int j ∧ Q (g i j) H
def rU (g : Int → V) : V → Hp → VK → Prop := fun x H Q => ∃ i, x = .int i ∧ Q (g i) H
section
variable {X : Cx} {a b c : Expr} {ta tb tc : TE} {pos : Pos}
theorem binT (ha : PE X a ta) (hb : PE X b tb) {pins : List (Addr × Obj)} {s : Shared} {σ : St} {H : Hp} {R : V → V → Hp → Prop} (I : Inv X pins σ H s)
    (h : ta σ H fun x H1 => tb σ H1 fun y H2 => R x y H2) {Q : Value → Shared → Prop} {f : Value → Value → Sem Value}
    (hf : ∀ v u s2 x y H2, Inv X pins σ H2 s2 → RelV x v → RelV y u → R x y H2 → wpAny (model X.prog X.w) X.A (f v u) Q X.xe s2) :
    wpAny (model X.prog X.w) X.A (eval a X.env) (fun v s₁ => wpAny (model X.prog X.w) X.A (eval b X.env) (fun u s₂ => wpAny (model X.prog X.w) X.A (f v u) Q X.xe s₂) X.xe s₁) X.xe s := by
  refine thn (ha pins s σ H _ I h) fun v s1 ⟨x, H1, I1, r1, q1⟩ => ?_
  refine thn (hb pins s1 σ H1 _ I1 q1) fun u s2 ⟨y, H2, I2, r2, q2⟩ => ?_
  exact hf v u s2 x y H2 I2 r1 r2 q2
theorem pe_op {op : Operator} {r : R2} (ho : OpR X (binaryOp op) r) (ha : PE X a ta) (hb : PE X b tb) : PE X (.BinOp a op b pos) (tOp r ta tb) := by
  intro pins s σ H Q I h
  exact wpAny_BinOp (binT ha hb I h fun v u s2 x y H2 I2 rx ry q => ho pins s2 σ H2 x y v u Q I2 rx ry q)
theorem pe_un {op : UnaryOp} {r : V → Hp → VK → Prop} (ho : UnR X (unaryOp op) r) (ha : PE X a ta) : PE X (.UnaryOp op a pos) (tUn r ta) := by
  intro pins s σ H Q I h
  exact UnaryOp_ (thn (ha pins s σ H _ I h) fun v s1 ⟨x, H1, I1, r1, q1⟩ => ho pins s1 σ H1 x v Q I1 r1 q1)
theorem opI {f : Value → Value → Sem Value} {C : Int → Int → Prop} {g : Int → Int → Int}
    (rule : ∀ (i j : Int) (t u : Tok) (s : Shared) (Q : Value → Shared → Prop) (E : Value → Shared → Prop), C i j → Q (.int (g i j) s.toks) { s with toks := s.toks + 1 } → wpAny (model X.prog X.w) X.A (f (.int i t) (.int j u)) Q E s) :
    OpR X f (rI C fun i j => .int (g i j)) := by
  intro pins s σ H x y v u Q I rx ry h
  obtain ⟨i, j, rfl, rfl, hc, q⟩ := h
  obtain ⟨t, rfl⟩ := rx
  obtain ⟨t', rfl⟩ := ry
  exact rule i j t t' s _ _ hc ⟨.int (g i j), H, I.tok _, ⟨_, rfl⟩, q⟩
theorem opI0 {f : Value → Value → Sem Value} {g : Int → Int → Int}
    (rule : ∀ (i j : Int) (t u : Tok) (s : Shared) (Q : Value → Shared → Prop) (E : Value → Shared → Prop), Q (.int (g i j) s.toks) { s with toks := s.toks + 1 } → wpAny (model X.prog X.w) X.A (f (.int i t) (.int j u)) Q E s) :
    OpR X f (rI0 fun i j => .int (g i j)) := by
  intro pins s σ H x y v u Q I rx ry h
  obtain ⟨i, j, rfl, rfl, q⟩ := h
  obtain ⟨t, rfl⟩ := rx
  obtain ⟨t', rfl⟩ := ry
  exact rule i j t t' s _ _ ⟨.int (g i j), H, I.tok _, ⟨_, rfl⟩, q⟩
theorem opB0 {f : Value → Value → Sem Value} {g : Int → Int → Bool}
    (rule : ∀ (i j : Int) (t u : Tok) (s : Shared) (Q : Value → Shared → Prop) (E : Value → Shared → Prop), Q (.bool (g i j)) s → wpAny (model X.prog X.w) X.A (f (.int i t) (.int j u)) Q E s) :
    OpR X f (rI0 fun i j => .bl (g i j)) := by
  intro pins s σ H x y v u Q I rx ry h
  obtain ⟨i, j, rfl, rfl, q⟩ := h
  obtain ⟨t, rfl⟩ := rx
  obtain ⟨t', rfl⟩ := ry
  exact rule i j t t' s _ _ ⟨.bl (g i j), H, I, rfl, q⟩
def CDiv (i j : Int) : Prop := 0 < j ∧ j < 1073741824
def CPow (i j : Int) : Prop := 0 ≤ j ∧ j ≤ 1000000 ∧ i.natAbs < 2 ^ 64
def CMul (i j : Int) : Prop := (-(2 ^ 64) < i ∧ i < 2 ^ 64) ∨ (-(2 ^ 64) < j ∧ j < 2 ^ 64)
theorem CMul.ok {i j : Int} (h : CMul i j) : IntMulOk i j := by
  rcases h with ⟨h1, h2⟩ | ⟨h1, h2⟩
  · exact .of_left (intBits_le_64 h1 h2)
  · exact .of_right (intBits_le_64 h1 h2)
theorem op_add : OpR X (binaryOp .Add) (rI0 fun i j => .int (i + j)) := opI0 fun _ _ _ _ _ _ _ q => add_int q
theorem op_sub : OpR X (binaryOp .Sub) (rI0 fun i j => .int (i - j)) := opI0 fun _ _ _ _ _ _ _ q => sub_int q
theorem op_mul : OpR X (binaryOp .Mult) (rI CMul fun i j => .int (i * j)) := opI fun _ _ _ _ _ _ _ hc q => mul_int q hc.ok
theorem op_fdiv : OpR X (binaryOp .FloorDiv) (rI CDiv fun i j => .int (i / j)) := opI fun i j _ _ _ _ _ hc q => by
  have h1 : (0 : Int) < j := hc.1
  have h2 : j < 1073741824 := hc.2
  exact floordiv_int (by omega) (by rw [Int.fdiv_eq_ediv_of_nonneg i (by omega)]; exact q) (.inl (PyProof.noPylong_small (by omega)))
theorem op_mod : OpR X (binaryOp .Mod) (rI (fun _ j => 0 < j) fun i j => .int (i % j)) := opI fun i j _ _ _ _ _ hc q => by
  have h1 : (0 : Int) < j := hc
  exact mod_int' (by omega) (by rw [Int.fmod_eq_emod_of_nonneg i (by omega)]; exact q)
theorem op_pow : OpR X (binaryOp .Pow) (rI CPow fun i j => .int (i ^ j.toNat)) := opI fun _ _ _ _ _ _ _ hc q => pow_int_small hc.1 hc.2.1 hc.2.2 q
theorem unI {f : Value → Sem Value} {g : Int → Int}
    (rule : ∀ (i : Int) (t : Tok) (s : Shared) (Q : Value → Shared → Prop) (E : Value → Shared → Prop), Q (.int (g i) s.toks) { s with toks := s.toks + 1 } → wpAny (model X.prog X.w) X.A (f (.int i t)) Q E s) :
    UnR X f (rU fun i => .int (g i)) := by
  intro pins s σ H x v Q I rx h
  obtain ⟨i, rfl, q⟩ := h
  obtain ⟨t, rfl⟩ := rx
  exact rule i t s _ _ ⟨.int (g i), H, I.tok _, ⟨_, rfl⟩, q⟩
theorem un_neg : UnR X (unaryOp .USub) (rU fun i => .int (-i)) := unI fun _ _ _ _ _ q => neg_int q
end
def scal : V → V → Bool
  | .non, .non => true | .non, .int _ => true | .int _, .non => true | .non, .bl _ => true | .bl _, .non => true | .non, .str _ => true | .str _, .non => true
  | .int _, .int _ => true | .bl _, .bl _ => true | .str _, .str _ => true | .byt _, .byt _ => true
  | .int _, .str _ => true | .str _, .int _ => true | .bl _, .str _ => true | .str _, .bl _ => true
  | _, _ => false
def rEq : R2 := fun x y H Q => scal x y = true ∧ Q (.bl (decide (x = y))) H
def rNe : R2 := fun x y H Q => scal x y = true ∧ Q (.bl (!decide (x = y))) H
theorem dec_int {i j : Int} : decide (V.int i = V.int j) = (i == j) := by
  rw [Bool.eq_iff_iff]
  simp
theorem dec_bl {i j : Bool} : decide (V.bl i = V.bl j) = (i == j) := by
  rw [Bool.eq_iff_iff]
  simp
theorem dec_str {i j : Str} : decide (V.str i = V.str j) = (i == j) := by
  rw [Bool.eq_iff_iff]
  simp
theorem dec_byt {i j : Array UInt8} : decide (V.byt i = V.byt j) = (i.toList == j.toList) := by
  rw [Bool.eq_iff_iff]
  cases i
  cases j
  simp
section
variable {X : Cx} {a b c : Expr} {ta tb tc : TE} {pos : Pos}
theorem fin_bl {pins : List (Addr × Obj)} {σ : St} {H : Hp} {s : Shared} {Q : VK} {k k' : Bool} (I : Inv X pins σ H s) (q : Q (.bl k) H) (e : k = k') : EP X pins σ Q (.bool k') s := by
  subst e
  exact ⟨.bl k, H, I, rfl, q⟩
theorem op_eq : OpR X (compareOp .Eq) rEq := by
  intro pins s σ H x y v u Q I rx ry h
  obtain ⟨hs, q⟩ := h
  cases x with
  | non =>
    cases rx
    cases y with
    | non => cases ry; exact PySem.EqNone.eq_none_none (fin_bl I q (by simp))
    | bl j => cases ry; exact PySem.EqNone.eq_none_bool (fin_bl I q (by simp))
    | int j => obtain ⟨t', rfl⟩ := ry; exact PySem.EqNone.eq_none_int (fin_bl I q (by simp))
    | str j => obtain ⟨t', rfl⟩ := ry; exact PySem.EqNone.eq_none_str (fin_bl I q (by simp))
    | _ => exact absurd (show false = true from hs) Bool.false_ne_true
  | bl i =>
    cases rx
    cases y with
    | non => cases ry; exact PySem.EqNone.eq_bool_none (fin_bl I q (by simp))
    | bl j => cases ry; exact eq_bool (fin_bl I q dec_bl)
    | str j => obtain ⟨t', rfl⟩ := ry; exact PySem.EqMixed.eq_bool_str (fin_bl I q (by simp))
    | _ => exact absurd (show false = true from hs) Bool.false_ne_true
  | int i =>
    obtain ⟨t, rfl⟩ := rx
    cases y with
    | non => cases ry; exact PySem.EqNone.eq_int_none (fin_bl I q (by simp))
    | int j => obtain ⟨t', rfl⟩ := ry; exact eq_int (fin_bl I q dec_int)
    | str j => obtain ⟨t', rfl⟩ := ry; exact PySem.EqMixed.eq_int_str (fin_bl I q (by simp))
    | _ => exact absurd (show false = true from hs) Bool.false_ne_true
  | str i =>
    obtain ⟨t, rfl⟩ := rx
    cases y with
    | non => cases ry; exact PySem.EqNone.eq_str_none (fin_bl I q (by simp))
    | bl j => cases ry; exact PySem.EqMixed.eq_str_bool (fin_bl I q (by simp))
    | int j => obtain ⟨t', rfl⟩ := ry; exact PySem.EqMixed.eq_str_int (fin_bl I q (by simp))
    | str j => obtain ⟨t', rfl⟩ := ry; exact eq_str (fin_bl I q dec_str)
    | _ => exact absurd (show false = true from hs) Bool.false_ne_true
  | byt i =>
    obtain ⟨t, rfl⟩ := rx
    cases y with
    | byt j => obtain ⟨t', rfl⟩ := ry; exact PySem.W.eq_bytes (fin_bl I q dec_byt)
    | _ => exact absurd (show false = true from hs) Bool.false_ne_true
  | _ => cases y <;> exact absurd (show false = true from hs) Bool.false_ne_true
theorem op_ne : OpR X (compareOp .NotEq) rNe := by
  intro pins s σ H x y v u Q I rx ry h
  obtain ⟨hs, q⟩ := h
  cases x with
  | non =>
    cases rx
    cases y with
    | non => cases ry; exact PySem.EqNone.ne_none_none (fin_bl I q (by simp))
    | bl j => cases ry; exact PySem.EqNone.ne_none_bool (fin_bl I q (by simp))
    | int j => obtain ⟨t', rfl⟩ := ry; exact PySem.EqNone.ne_none_int (fin_bl I q (by simp))
    | str j => obtain ⟨t', rfl⟩ := ry; exact PySem.EqNone.ne_none_str (fin_bl I q (by simp))
    | _ => exact absurd (show false = true from hs) Bool.false_ne_true
  | bl i =>
    cases rx
    cases y with
    | non => cases ry; exact PySem.EqNone.ne_bool_none (fin_bl I q (by simp))
    | bl j => cases ry; exact ne_bool (fin_bl I q (congrArg not dec_bl))
    | str j => obtain ⟨t', rfl⟩ := ry; exact PySem.EqMixed.ne_bool_str (fin_bl I q (by simp))
    | _ => exact absurd (show false = true from hs) Bool.false_ne_true
  | int i =>
    obtain ⟨t, rfl⟩ := rx
    cases y with
    | non => cases ry; exact PySem.EqNone.ne_int_none (fin_bl I q (by simp))
    | int j => obtain ⟨t', rfl⟩ := ry; exact ne_int (fin_bl I q (congrArg not dec_int))
    | str j => obtain ⟨t', rfl⟩ := ry; exact PySem.EqMixed.ne_int_str (fin_bl I q (by simp))
    | _ => exact absurd (show false = true from hs) Bool.false_ne_true
  | str i =>
    obtain ⟨t, rfl⟩ := rx
    cases y with
    | non => cases ry; exact PySem.EqNone.ne_str_none (fin_bl I q (by simp))
    | bl j => cases ry; exact PySem.EqMixed.ne_str_bool (fin_bl I q (by simp))
    | int j => obtain ⟨t', rfl⟩ := ry; exact PySem.EqMixed.ne_str_int (fin_bl I q (by simp))
    | str j => obtain ⟨t', rfl⟩ := ry; exact ne_str (fin_bl I q (congrArg not dec_str))
    | _ => exact absurd (show false = true from hs) Bool.false_ne_true
  | byt i =>
    obtain ⟨t, rfl⟩ := rx
    cases y with
    | byt j => obtain ⟨t', rfl⟩ := ry; exact PySem.W.ne_bytes (fin_bl I q (congrArg not dec_byt))
    | _ => exact absurd (show false = true from hs) Bool.false_ne_true
  | _ => cases y <;> exact absurd (show false = true from hs) Bool.false_ne_true
theorem op_lt : OpR X (compareOp .Lt) (rI0 fun i j => .bl (decide (i < j))) := opB0 fun _ _ _ _ _ _ _ q => lt_int q
theorem op_le : OpR X (compareOp .LtE) (rI0 fun i j => .bl (decide (i ≤ j))) := opB0 fun _ _ _ _ _ _ _ q => le_int q
theorem op_gt : OpR X (compareOp .Gt) (rI0 fun i j => .bl (decide (j < i))) := opB0 fun _ _ _ _ _ _ _ q => gt_int q
def isObj : HO → Bool
  | .lst _ => true
  | .ins _ _ _ => true
  | _ => false
theorem OpR.or {f : Value → Value → Sem Value} {r r' : R2} (h : OpR X f r) (h' : OpR X f r') : OpR X f (fun x y H Q => r x y H Q ∨ r' x y H Q) := by
  intro pins s σ H x y v u Q I rx ry q
  rcases q with q | q
  · exact h pins s σ H x y v u Q I rx ry q
  · exact h' pins s σ H x y v u Q I rx ry q
theorem nomark (b : Expr) {op : CmpOp} (h : op ≠ .In := by decide) (h2 : op ≠ .NotIn := by decide) : behindInMarks op b = false := by
  have e1 : (op == CmpOp.In) = false := by cases op <;> first | rfl | exact absurd rfl h
  have e2 : (op == CmpOp.NotIn) = false := by cases op <;> first | rfl | exact absurd rfl h2
  cases b <;> simp [behindInMarks, e1, e2]
theorem pe_cmpR {op : CmpOp} {r : R2} (ho : OpR X (compareOp op) r) (ha : PE X a ta) (hb : PE X b tb) (hm : behindInMarks op b = false) : PE X (.Compare a [op] [b] pos) (tOp r ta tb) := by
  intro pins s σ H Q I h
  exact wpAny_Compare1 (binT ha hb I h fun v u s2 x y H2 I2 rx ry q => ho pins s2 σ H2 x y v u Q I2 rx ry q) hm
def tTest (t : TE) : TT := fun σ H Q => t σ H fun x H' => ∃ k, x = .bl k ∧ Q k H'
theorem pt_cmpR {op : CmpOp} {r : R2} (ho : OpR X (compareOp op) r) (ha : PE X a ta) (hb : PE X b tb) (hm : behindInMarks op b = false) : PT X (.Compare a [op] [b] pos) (tTest (tOp r ta tb)) := by
  intro pins s σ H Q I h
  refine wpAny_isTrue_Compare1 (thn (ha pins s σ H _ I h) fun v s1 ⟨x, H1, I1, r1, q1⟩ => thn (hb pins s1 σ H1 _ I1 q1) fun u s2 ⟨y, H2, I2, r2, q2⟩ =>
    thn (ho pins s2 σ H2 x y v u _ I2 r1 r2 q2) fun c s3 ⟨z, H3, I3, r3, k, e, q3⟩ => ?_) hm
  subst e
  cases r3
  exact wpAny_truthy_bool ⟨H3, I3, q3⟩
def tChain (r r' : R2) (ta tb tc : TE) : TE := fun σ H Q => ta σ H fun x H1 => tb σ H1 fun y H2 => r x y H2 fun z H3 => ∃ k, z = .bl k ∧
  (if k = true then tc σ H3 fun w' H4 => r' y w' H4 Q else Q (.bl false) H3)
theorem pe_chain {op op' : CmpOp} {r r' : R2} (ho : OpR X (compareOp op) r) (ho' : OpR X (compareOp op') r') (ha : PE X a ta) (hb : PE X b tb) (hc : PE X c tc)
    (hm : lastMarks [op, op'] [b, c] = false := by with_unfolding_all rfl) : PE X (.Compare a [op, op'] [b, c] pos) (tChain r r' ta tb tc) := by
  intro pins s σ H Q I h
  refine Compare_chain (thn (ha pins s σ H _ I h) fun v s1 ⟨x, H1, I1, r1, q1⟩ => chain_link (thn (hb pins s1 σ H1 _ I1 q1) fun u s2 ⟨y, H2, I2, r2, q2⟩ =>
    thn (ho pins s2 σ H2 x y v u _ I2 r1 r2 q2) fun d s3 ⟨z, H3, I3, r3, k, e, q3⟩ => ?_)) hm
  subst e
  cases r3
  refine wpAny_truthy_bool ?_
  cases k with
  | false => exact ite_ff ⟨.bl false, H3, I3, rfl, q3⟩
  | true => exact ite_tt (chain_last (thn (hc pins s3 σ H3 _ I3 q3) fun w' s4 ⟨z', H4, I4, r4, q4⟩ => ho' pins s4 σ H4 y z' u w' Q I4 r2 r4 q4))
theorem line63 : (sizeLine : Nat) < 2 ^ 63 := by rw [sizeLine_eq]; decide
theorem vals1 {x : V} {us : List Value} (r : Vals [x] us) : ∃ u, us = [u] ∧ RelV x u := by
  cases r with
  | cons r1 r2 => cases r2; exact ⟨_, rfl, r1⟩
theorem vals2 {x y : V} {us : List Value} (r : Vals [x, y] us) : ∃ u w', us = [u, w'] ∧ RelV x u ∧ RelV y w' := by
  cases r with
  | cons r1 r2 =>
    cases r2 with
    | cons r3 r4 => cases r4; exact ⟨_, _, rfl, r1, r3⟩
theorem call_str_int : CallR X (.type "str") (fun xs H Q => ∃ i, xs = [.int i] ∧ i.natAbs.log2 < 1920 ∧ Q (.str (toString i)) H) := by
  intro pins s σ H xs us Q I r h
  obtain ⟨i, rfl, hz, q⟩ := h
  obtain ⟨u, rfl, t, rfl⟩ := vals1 r
  exact PySem.P.str_of_int hz ⟨.str _, H, I.tok _, ⟨_, rfl⟩, q⟩
end
end L2
namespace L2
open PySem PySem.Spec PyProof.Rows
structure ObjM (h : Heap) (x dx C : Addr) (mA : Str → Option Value) : Prop where
  obj : h.get? x = some (PySem.W.instObj C dx)
  ns : h.Ns1 dx mA
  ne : dx ≠ x
theorem lookIn_ns {h : Heap} {dx : Addr} {mA : Str → Option Value} (n : h.Ns1 dx mA) : ∃ od, h.get? dx = some od ∧ ∀ name, PySem.W.lookIn name od = some (mA name) := by
  obtain ⟨o, es, ep, ho, hd, hk, _, hm⟩ := n
  refine ⟨o, ho, fun name => ?_⟩
  have e := hm name
  unfold nsFind findBy at e
  rw [← Array.find?_toList] at e
  unfold PySem.W.lookIn
  rw [hd]
  dsimp only
  split
  · rename_i y q
    rw [q] at e
    exact congrArg some e
  · rename_i q
    rw [q] at e
    have a : es.toList.any (·.refKey) = false := by
      rw [List.any_eq_false]
      intro y hy
      obtain ⟨z, t, hkey⟩ := hk y (Array.mem_toList_iff.mp hy)
      simp [DictEntry.refKey, hkey]
    have a' : ¬ es.toList.any (·.refKey) = true := by rw [a]; exact Bool.false_ne_true
    rw [if_neg a']
    exact congrArg some e
theorem ObjM.look {h : Heap} {x dx C : Addr} {mA : Str → Option Value} (I : ObjM h x dx C mA) : ∃ od, PySem.W.InstAt h x (PySem.W.instObj C dx) C (some od) ∧ ∀ name, PySem.W.lookIn name od = some (mA name) :=
  let ⟨od, ho, hl⟩ := lookIn_ns I.ns
  ⟨od, ⟨I.obj, rfl, rfl, ho⟩, hl⟩
section
variable {prog : Program} {w : World} {A : Around} {E : Value → Shared → Prop} {s : Shared} {K : PySem.W.Frag} {x dx C f : Addr} {mA : Str → Option Value} {name : Str} {v : Value}
end
theorem RelO.some_of {v : V} {o : Option Value} (r : RelO (some v) o) : ∃ u, o = some u ∧ RelV v u := by
  cases o with
  | none => exact (show False from r).elim
  | some u => exact ⟨u, rfl, r⟩
theorem handed_of {v : V} {u : Value} (r : RelV v u) : PySem.W.handedIn u = true := by
  cases v with
  | non => cases (show u = Value.none from r); rfl
  | bl b => cases (show u = Value.bool b from r); rfl
  | int i => obtain ⟨t, e⟩ := (show ∃ t, u = Value.int i t from r); cases e; rfl
  | str x => obtain ⟨t, e⟩ := (show ∃ t, u = Value.str x t from r); cases e; rfl
  | byt b => obtain ⟨t, e⟩ := (show ∃ t, u = Value.bytes b t from r); cases e; rfl
  | flt b => obtain ⟨t, e⟩ := (show ∃ t, u = Value.float b t from r); cases e; rfl
  | ref a => cases (show u = Value.ref a from r); rfl
  | ty n => cases (show u = Value.type n from r); rfl
section
variable {P : Program} {w : World} {H H' : Hp} {h h' : Heap} {a C dx : Addr} {fs fs' : List (Str × V)}
theorem ins_get (hok : HOk P w H h) (e : H a = some (.ins C dx fs)) : ∃ mA, ObjM h a dx C mA ∧ (∀ f, RelO (fs.lookup f) (mA f)) ∧ PySem.Within mA (fs.map (·.1)) ∧ fs.length ≤ 1000 ∧ H dx = some (.own a) := by
  obtain ⟨d, z, ne, ob, mA, n, r, q⟩ := (show ObjOk P w H h a (.ins C dx fs) from hok a _ e)
  exact ⟨mA, ⟨ob, n, ne⟩, r, q, z, d⟩
end
structure Cls (K : PySem.W.Frag) (C : Addr) : Prop where
  pg : PySem.W.plainGet K C Str.empty = true
  hd : PySem.W.hasDictIn K C = true
  po : PySem.W.plainOver K C = true
  sa : PySem.W.findIn K (.ref C) "__setattr__" = some (some (.builtin "object.__setattr__"))
theorem Cls.get {K : PySem.W.Frag} {C : Addr} (c : Cls K C) (f : Str) : PySem.W.plainGet K C f = true := c.pg
def NoAttr (K : PySem.W.Frag) (C : Addr) (f : Str) : Prop := PySem.W.findIn K (.ref C) f = some none
section
variable {X : Cx} {pins : List (Addr × Obj)} {σ : St} {H : Hp} {s : Shared} {a C dx : Addr} {fs : List (Str × V)} {f : Str} {v : V} {A : Around} {E : Value → Shared → Prop}
theorem attr_of {prog : Program} {w : World} {env : Env} {e : Expr} {f : Str} {pos : Pos} {s : Shared} {Q : Value → Shared → Prop} (hb : attributeBase e f env (eval e env) = eval e env)
    (h : wpAny (model prog w) A (eval e env) (fun o s₁ => wpAny (model prog w) A (getAttr o f true) Q E s₁) E s) : wpAny (model prog w) A (eval (.Attribute e f pos) env) Q E s :=
  Attribute_any_ h (by rw [arm_eval_Attribute, hb])
end
section
variable {X : Cx} {o e value : Expr} {f : Str} {pos pos' tpos : Pos} {ta tv : TE}
end
section
variable {X : Cx} {pins : List (Addr × Obj)} {σ : St} {H : Hp} {s : Shared} {A : Around} {E : Value → Shared → Prop} {Q : Value → Shared → Prop} {c : Value} {b : Bool}
inductive TyOf (K : PySem.W.Frag) (H : Hp) : V → Value → Prop where
  | non : TyOf K H .non (.type "NoneType")
  | bl (x : Bool) : TyOf K H (.bl x) (.type "bool")
  | int (i : Int) : TyOf K H (.int i) (.type "int")
  | str (x : Str) : TyOf K H (.str x) (.type "str")
  | flt (x : UInt64) : TyOf K H (.flt x) (.type "float")
  | lst {a : Addr} {xs : List V} (e : H a = some (.lst xs)) : TyOf K H (.ref a) (.type "list")
  | frz {a : Addr} {o : Obj} {xs : List V} (e : H a = some (.frz o (.lst xs))) : TyOf K H (.ref a) (.type "list")
  | tup {a : Addr} {xs : List V} (e : H a = some (.tup xs)) : TyOf K H (.ref a) (.type "tuple")
  | dK {a : Addr} {kvs : List (Key × V)} (e : H a = some (.dK kvs)) : TyOf K H (.ref a) (.type "dict")
  | dT {a : Addr} {kvs : List (List Key × V)} (e : H a = some (.dT kvs)) : TyOf K H (.ref a) (.type "dict")
  | ins {a C dx : Addr} {fs : List (Str × V)} (e : H a = some (.ins C dx fs)) (cl : Cls K C) (ha : PySem.W.findIn K (.ref C) "__class__" = some (some (.builtin "object.__class__")))
      (hn : PySem.W.specialIn K (.builtin "object.__class__") "__get__" = some (some (.builtin "getset_descriptor.__get__"))) (htk : PySem.W.takesIn K (.builtin "object.__class__") = some true)
      (hm : PySem.W.mroIn K C (.type "object") = some true) : TyOf K H (.ref a) (.ref C)
theorem isinst_ok {x : V} {u t : Value} (I : Inv X pins σ H s) (rx : RelV x u) (ty : TyOf X.K H x t) (e : PySem.W.kitOne X.K t c = some b) (h : ∀ tk, Q (.bool b) { s with toks := tk }) :
    wpAny (model X.prog X.w) A (call (.builtin "isinstance") [u, c]) Q E s := by
  cases ty with
  | non => cases (show u = Value.none from rx); exact PySem.W.kia_one PySem.W.kitx_none I.kIn True.intro e (fun z => nomatch z) h
  | bl y => cases (show u = Value.bool y from rx); exact PySem.W.kia_one PySem.W.kitx_bool I.kIn True.intro e (fun z => nomatch z) h
  | int i => obtain ⟨t, q⟩ := (show ∃ t, u = Value.int i t from rx); cases q; exact PySem.W.kia_one PySem.W.kitx_int I.kIn True.intro e (fun z => nomatch z) h
  | str y => obtain ⟨t, q⟩ := (show ∃ t, u = Value.str y t from rx); cases q; exact PySem.W.kia_one PySem.W.kitx_str I.kIn True.intro e (fun z => nomatch z) h
  | flt y => obtain ⟨t, q⟩ := (show ∃ t, u = Value.float y t from rx); cases q; exact PySem.W.kia_one PySem.W.kitx_float I.kIn True.intro e (fun z => nomatch z) h
  | @lst a xs ea =>
    cases (show u = Value.ref a from rx)
    obtain ⟨_, _, n, _, h1⟩ := (show ObjOk X.prog X.w H s.heap a (.lst xs) from I.hok a _ ea)
    exact PySem.W.kia_one PySem.W.kitx_list I.kIn ⟨_, h1, rfl⟩ e (fun z => nomatch z) h
  | @frz a ob xs ea =>
    cases (show u = Value.ref a from rx)
    obtain ⟨_, _, _, n, _, h1⟩ := (show ObjOk X.prog X.w H s.heap a (.frz ob (.lst xs)) from I.hok a _ ea)
    exact PySem.W.kia_one PySem.W.kitx_list I.kIn ⟨_, h1, rfl⟩ e (fun z => nomatch z) h
  | @tup a xs ea =>
    cases (show u = Value.ref a from rx)
    obtain ⟨_, _, _, p⟩ := (show ObjOk X.prog X.w H s.heap a (.tup xs) from I.hok a _ ea)
    obtain ⟨o, h1, h2, _⟩ := p
    exact PySem.W.kia_one PySem.W.kitx_tuple I.kIn ⟨o, h1, h2⟩ e (fun z => nomatch z) h
  | @dK a kvs ea =>
    cases (show u = Value.ref a from rx)
    obtain ⟨_, _, vs, _, p⟩ := (show ObjOk X.prog X.w H s.heap a (.dK kvs) from I.hok a _ ea)
    obtain ⟨o, es, ep, h1, h2, _⟩ := p
    exact PySem.W.kia_one PySem.W.kitx_dict I.kIn ⟨o, h1, h2.1⟩ e (fun z => nomatch z) h
  | @dT a kvs ea =>
    cases (show u = Value.ref a from rx)
    obtain ⟨_, _, xs, _, o, es, ep, h1, h2, _⟩ := (show ObjOk X.prog X.w H s.heap a (.dT kvs) from I.hok a _ ea)
    exact PySem.W.kia_one PySem.W.kitx_dict I.kIn ⟨o, h1, h2.1⟩ e (fun z => nomatch z) h
  | @ins a C dx fs ea cl ha hn htk hm =>
    cases (show u = Value.ref a from rx)
    obtain ⟨mA, O, _⟩ := ins_get I.hok ea
    obtain ⟨od, J, _⟩ := O.look
    exact PySem.W.kia_one (PySem.W.kitx_own (cl.get _) cl.hd ha hn htk hm) I.kIn J e (fun z => nomatch z) h
end
end L2
namespace L2
open PySem PySem.Spec PyProof.Rows
structure Room (k : Nat) (A : Around) : Prop where
  hd : A.handled = none
  dp : A.depth + 3 * k + 5 < recursionLimit
  un : A.units + 16 * k + 200 < cLine
theorem Room.mono {j k : Nat} {A : Around} (r : Room k A) (h : j ≤ k) : Room j A := ⟨r.hd, by have := r.dp; omega, by have := r.un; omega⟩
theorem Room.deeper {k : Nat} {A : Around} (r : Room (k + 1) A) (env : Env) : Room k (A.deeper env) :=
  ⟨r.hd, by have := r.dp; show A.depth + 1 + 3 * k + 5 < _; omega, by have := r.un; show A.units + 3 + 16 * k + 200 < _; omega⟩
theorem make_depth {A : Around} {C : Addr} {us : List Value} {kw : List (Str × Value)} : (A.under (.builtin "type.__call__" ⟨.ref C :: us, kw⟩)).depth = A.depth + 1 := by
  first | rfl | simp [Around.under, Code.weight, Code.isCreation, Code.isGuard, Code.isCaller, Code.frames, Code.isFrame, guardIds]
theorem make_units {A : Around} {C : Addr} {us : List Value} {kw : List (Str × Value)} : (A.under (.builtin "type.__call__" ⟨.ref C :: us, kw⟩)).units = A.units + 1 := by
  first | rfl | simp [Around.under, Code.cUnits, Code.frames, Code.isFrame]
theorem Room.make {k : Nat} {A : Around} (r : Room (k + 1) A) (C : Addr) (us : List Value) (kw : List (Str × Value)) : Room k (A.under (.builtin "type.__call__" ⟨.ref C :: us, kw⟩)) :=
  ⟨r.hd, by have := r.dp; rw [make_depth]; omega, by have := r.un; rw [make_units]; omega⟩
theorem Room.depth {k : Nat} {A : Around} (r : Room k A) : A.depth < recursionLimit := by have := r.dp; omega
theorem Room.units {k : Nat} {A : Around} (r : Room k A) : A.units + 64 < cLine := by have := r.un; omega
def tNil : TA := fun _ H Q => Q [] H
def tCons (ta : TE) (tr : TA) : TA := fun σ H Q => ta σ H fun x H1 => tr σ H1 fun xs H2 => Q (x :: xs) H2
section
variable {X : Cx} {e : Expr} {es : List Expr} {te : TE} {t : TA} {pos : Pos}
theorem pa_nil : PA X [] tNil := fun _ _ _ _ H Q I h => Calls.spliced_nil ⟨[], H, I, .nil, h⟩
theorem pa_cons (ha : PE X e te) (hr : PA X es t) (hs : starEach (e :: es) X.env = (false, eval e X.env) :: starEach es X.env := by rfl) : PA X (e :: es) (tCons te t) := by
  intro pos pins s σ H Q I h
  rw [hs]
  show wpAny _ _ (spliced ((false, eval e X.env) :: backTo pos (starEach es X.env))) _ _ s
  refine Calls.spliced_cons (thn (ha pins s σ H _ I h) fun u s1 ⟨x, H1, I1, r1, q1⟩ => ?_)
  exact thn (hr pos pins s1 σ H1 _ I1 q1) fun us s2 ⟨xs, H2, I2, r2, q2⟩ => ⟨x :: xs, H2, I2, .cons r1 r2, q2⟩
end
abbrev Sp := List V → Hp → VK → XK → Prop
abbrev CXT := List Env → Hp → Shared → XK → Value → Shared → Prop
structure Env0 (P : Program) (w : World) (K : PySem.W.Frag) (mg : Str → Option Value) (base : Heap) (A : Around) (outer : List Env) (s : Shared) (H : Hp) : Prop where
  frames : A.frames = some outer
  mod : Mod K mg base
  bs : ∀ b o, base.get? b = some o → s.heap.get? b = some o ∧ H b = none
  bsz : base.objs.size ≤ s.heap.objs.size
  funs : s.heap.FunFrames base outer
  frf : ∀ b ∈ frs outer, H b = none
  hok : HOk P w H s.heap
  bare : AllBare s.gens
def CE (outer : List Env) (P : Program) (w : World) (H : Hp) (s : Shared) (Q : VK) (u : Value) (s' : Shared) : Prop :=
  ∃ v H', s'.os = s.os ∧ AllBare s'.gens ∧ Un (frs outer) [] H H' s.heap s'.heap ∧ HOk P w H' s'.heap ∧ RelV v u ∧ Q v H'
def CR (CX : CXT) (outer : List Env) (P : Program) (w : World) (H : Hp) (s : Shared) (Q : VK) (E : XK) (r : Result) (s' : Shared) : Prop :=
  match r with
  | .ok (.ret u) => CE outer P w H s Q u s'
  | .ok _ => False
  | .error e => CX outer H s E e s'
structure FnOk (P : Program) (w : World) (K : PySem.W.Frag) (mg : Str → Option Value) (base : Heap) (CX : CXT) (k : Nat) (f : Addr) (fd : FuncData) (ps : List Str) (sp : Sp) : Prop where
  len : ∀ vs H Q E, sp vs H Q E → vs.length = ps.length
  run : ∀ (A : Around) (outer : List Env) (s : Shared) (H : Hp) (args : Args) (us : List Value) (vs : List V) (Q : VK) (E : XK), Room k A → Env0 P w K mg base A outer s H → BindsTo s fd args (ps.zip us) → Vals vs us → sp vs H Q E →
    codeAny (model P w) A (.call (.ref f) args) (CR CX outer P w H s Q E) s
theorem Env0.make {P : Program} {w : World} {K : PySem.W.Frag} {mg : Str → Option Value} {base : Heap} {A : Around} {outer : List Env} {s : Shared} {H : Hp} (e : Env0 P w K mg base A outer s H) (C : Addr) (us : List Value) (kw : List (Str × Value)) :
    Env0 P w K mg base (A.under (.builtin "type.__call__" ⟨.ref C :: us, kw⟩)) outer s H := ⟨by first | exact e.frames | (simpa [Around.under, Code.envs, Code.isFrame, pushEnvs] using e.frames), e.mod, e.bs, e.bsz, e.funs, e.frf, e.hok, e.bare⟩
section
variable {X : Cx} {pins : List (Addr × Obj)} {σ : St} {H : Hp} {s s' : Shared}
theorem Inv.env0 (I : Inv X pins σ H s) : Env0 X.prog X.w X.K X.mg X.base X.A X.stack s H :=
  ⟨I.ok.frames, I.ok.mod, I.bs, Nat.le_trans I.ok.bsz I.sz, I.stack, I.stkFree, I.hok, I.bare⟩
theorem Inv.after {Q : VK} {u : Value} (I : Inv X pins σ H s) (h : CE X.stack X.prog X.w H s Q u s') : EP X pins σ Q u s' := by
  obtain ⟨v, H', os, bare, un, hok, r, q⟩ := h
  obtain ⟨hh, g, d, t, os'⟩ := s'
  obtain rfl : os' = s.os := os
  exact ⟨v, H', I.call (h' := hh) (g' := g) (d' := d) (t' := t) (ch := []) un hok bare (fun b z => absurd z (by simp)), r, q⟩
end
def tCall (sp : Sp) (dvs : List V) (E : XK) (t : TA) : TE := fun σ H Q => t σ H fun vs H1 => sp (vs ++ dvs) H1 Q E
def Binds (K : PySem.W.Frag) (fd : FuncData) (ps : List Str) (ds : List Value) : Prop :=
  ∀ (s : Shared) (us : List Value), K.In s.heap → (us ++ ds).length = ps.length → BindsTo s fd ⟨us, []⟩ (ps.zip (us ++ ds))
theorem Binds.all {K : PySem.W.Frag} {fd : FuncData} {ps : List Str} (h : ∀ us : List Value, us.length = ps.length → bindArgs fd ⟨us, []⟩ = pure (ps.zip us)) : Binds K fd ps [] := fun s us _ hl => by
  rw [List.append_nil] at hl ⊢
  exact .of_eq (h us hl)
def Passes (CX : CXT) (X : Cx) (E : XK) : Prop := ∀ (pins : List (Addr × Obj)) (σ : St) (H : Hp) (s : Shared) (e : Value) (s' : Shared), Inv X pins σ H s → CX X.stack H s E e s' → X.xe e s'
section
variable {X : Cx} {CX : CXT} {k : Nat} {f C : Addr} {fd : FuncData} {ps : List Str} {sp : Sp} {dvs : List V} {ds : List Value} {E : XK} {x m : Str} {p pos apos : Pos} {e o : Expr} {es : List Expr} {ta : TE} {t : TA}
theorem run_fn {pins : List (Addr × Obj)} {σ : St} {H : Hp} {s : Shared} {Q : VK} {us : List Value} {vs : List V} (F : FnOk X.prog X.w X.K X.mg X.base CX k f fd ps sp) (hr : Room k X.A) (hb : Binds X.K fd ps ds) (hd : Vals dvs ds) (hx : Passes CX X E)
    (I : Inv X pins σ H s) (r : Vals vs us) (h : sp (vs ++ dvs) H Q E) : wpAny (model X.prog X.w) X.A (call (.ref f) us) (EP X pins σ Q) X.xe s := by
  have r2 : Vals (vs ++ dvs) (us ++ ds) := r.append hd
  have hl : (us ++ ds).length = ps.length := by rw [← r2.length]; exact F.len _ _ _ _ h
  refine wpAny_call (codeAny_mono (F.run X.A X.stack s H ⟨us, []⟩ (us ++ ds) (vs ++ dvs) Q E hr I.env0 (hb s us I.kIn hl) r2 h) fun r s' hq => ?_)
  cases r with
  | error e => exact hx pins σ H s e s' I hq
  | ok fl =>
    cases fl with
    | ret u => exact I.after hq
    | next => exact False.elim hq
    | brk => exact False.elim hq
    | cont => exact False.elim hq
theorem pe_call (F : FnOk X.prog X.w X.K X.mg X.base CX k f fd ps sp) (hr : Room k X.A) (hg : Gl X x) (hm : X.mg x = some (.ref f)) (hk : PySem.W.keepIn X.K (.ref f) = true) (hb : Binds X.K fd ps ds) (hd : Vals dvs ds) (hx : Passes CX X E)
    (ha : PA X (e :: es) t) (hdb : (x == ("__debug__" : Str)) = false := by decide) (he : starEach (e :: es) X.env = (false, eval e X.env) :: starEach es X.env := by rfl) (hpl : (backTo pos (starEach es X.env)).any (·.1) = false := by rfl) :
    PE X (.Call (.Name x p) (e :: es) [] pos) (tCall sp dvs E t) := by
  intro pins s σ H Q I h
  refine wpAny_Call_Name_kw (ld_glob I hg hm ?_ hdb)
  refine PySem.W.callWith_K (h₀ := X.base) I.ok.mod.kin hk (thn (ha pos pins s σ H _ I h) fun us s1 ⟨vs, H1, I1, r, q⟩ => ⟨I1.kIn, ?_⟩) he hpl
  exact run_fn F hr hb hd hx I1 r q
end
section
variable {X : Cx} {CX : CXT} {k : Nat} {f C : Addr} {fd : FuncData} {ps ks : List Str} {sp : Sp} {E : XK} {x m : Str} {p pos apos kpos : Pos} {e o : Expr} {es : List Expr} {kws : List Keyword} {te ta : TE} {t tk : TA} {nm : Option Str}
variable {g : List Value → List Value → List Value} {gV : List V → List V → List V}
end
structure FnScope (N P : List Str) (sc : Scope) : Prop where
  kind : sc.kind = .function
  co : sc.isCoroutine = false
  gen : sc.isGenerator = false
  nd : N.Nodup
  pre : N.take P.length = P
  par : ∀ x ∈ P, sc.names.lookup x = some .local ∨ sc.names.lookup x = some .cell
  nofree : ∀ y ∈ sc.names, y.2 ≠ .free
theorem bindL_out {kindOf : Str → Option NameKind} {x : Str} : ∀ {binds : List (Str × Value)} {m : Str → Option Value}, (∀ v, (x, v) ∉ binds) → bindL kindOf binds m x = m x
  | [], _, _ => rfl
  | (n, v) :: r, m, h => by
    unfold bindL
    rw [bindL_out fun w hw => h w (List.mem_cons_of_mem _ hw)]
    split
    · have : x ≠ n := by rintro rfl; exact h v List.mem_cons_self
      simp [this]
    · rfl
theorem bindC_out {kindOf : Str → Option NameKind} {x : Str} : ∀ {binds : List (Str × Value)} {m : Str → Option Value}, (∀ v, (x, v) ∉ binds) → bindC kindOf binds m x = m x
  | [], _, _ => rfl
  | (n, v) :: r, m, h => by
    unfold bindC
    rw [bindC_out fun w hw => h w (List.mem_cons_of_mem _ hw)]
    split
    · rfl
    · have : x ≠ n := by rintro rfl; exact h v List.mem_cons_self
      simp [this]
theorem bindL_get {kindOf : Str → Option NameKind} {x : Str} {v : Value} : ∀ {P : List Str} {vs : List Value} {i : Nat} {m : Str → Option Value}, P.Nodup → P[i]? = some x → vs[i]? = some v → kindOf x = some .local →
    bindL kindOf (P.zip vs) m x = some v
  | [], _, _, _, _, h, _, _ => by simp at h
  | _ :: _, [], _, _, _, _, h, _ => by simp at h
  | p :: P, w :: vs, 0, m, nd, h1, h2, hk => by
    simp at h1 h2; subst h1; subst h2
    show bindL kindOf ((p, w) :: P.zip vs) m p = _
    unfold bindL
    rw [bindL_out fun v hv => (List.nodup_cons.mp nd).1 (List.of_mem_zip hv).1, if_pos hk]
    simp
  | p :: P, w :: vs, i + 1, m, nd, h1, h2, hk => by
    show bindL kindOf ((p, w) :: P.zip vs) m x = _
    unfold bindL
    exact bindL_get (i := i) (List.nodup_cons.mp nd).2 (by simpa using h1) (by simpa using h2) hk
theorem bindC_get {kindOf : Str → Option NameKind} {x : Str} {v : Value} : ∀ {P : List Str} {vs : List Value} {i : Nat} {m : Str → Option Value}, P.Nodup → P[i]? = some x → vs[i]? = some v → kindOf x ≠ some .local →
    bindC kindOf (P.zip vs) m x = some v
  | [], _, _, _, _, h, _, _ => by simp at h
  | _ :: _, [], _, _, _, _, h, _ => by simp at h
  | p :: P, w :: vs, 0, m, nd, h1, h2, hk => by
    simp at h1 h2; subst h1; subst h2
    show bindC kindOf ((p, w) :: P.zip vs) m p = _
    unfold bindC
    rw [bindC_out fun v hv => (List.nodup_cons.mp nd).1 (List.of_mem_zip hv).1, if_neg hk]
    simp
  | p :: P, w :: vs, i + 1, m, nd, h1, h2, hk => by
    show bindC kindOf ((p, w) :: P.zip vs) m x = _
    unfold bindC
    exact bindC_get (i := i) (List.nodup_cons.mp nd).2 (by simpa using h1) (by simpa using h2) hk
def start (N : List Str) (vs : List V) : St := vs.map some ++ List.replicate (N.length - vs.length) none
def cxOf (CX : CXT) (P : Program) (w : World) (K : PySem.W.Frag) (mg : Str → Option Value) (base : Heap) (N : List Str) (qual : Str) (scope : Scope) (f : Addr) (cd : Value) (A : Around) (outer : List Env) (s : Shared) (H : Hp) (E : XK) : Cx where
  prog := P
  w := w
  K := K
  mg := mg
  base := base
  A := A.deeper (envOfC qual scope s.heap.objs.size f cd)
  N := N
  s₀ := s
  H₀ := H
  env := envOfC qual scope s.heap.objs.size f cd
  outer := outer
  stack := envOfC qual scope s.heap.objs.size f cd :: outer
  ex := []
  calm := true
  fn := fun _ => true
  pn := []
  xe := fun e s' => wpAny (model P w) (A.deeper (envOfC qual scope s.heap.objs.size f cd)) (leaving (envOfC qual scope s.heap.objs.size f cd) e) (fun _ s'' => CX outer H s E e s'') (fun e' s'' => CX outer H s E e' s'') s'
theorem cell_has {sc : Scope} {n : Nat} {x : Str} (h : sc.names.lookup x = some .cell) : ∃ c, (cellsFrom n sc.names []).lookup x = some c := by
  have q := PySem.W.cellsFrom_some sc.names n [] (.inl h)
  exact Option.isSome_iff_exists.mp q
theorem inv_start {CX : CXT} {P : Program} {w : World} {K : PySem.W.Frag} {mg : Str → Option Value} {base : Heap} {N ps : List Str} {qual : Str} {scope : Scope} {f : Addr} {cd : Value} {A : Around} {outer : List Env} {s s1 : Shared} {H : Hp} {E : XK} {us : List Value} {vs : List V}
    (S : FnScope N ps scope) (hd : A.handled = none) (e0 : Env0 P w K mg base A outer s H) (hl : vs.length = ps.length) (r : Vals vs us)
    (x : InCallC s s.heap.objs.size (bindL (envOfC qual scope s.heap.objs.size f cd).kindOf (ps.zip us) fun _ => none) (cellsFrom (s.heap.objs.size + 1) scope.names []) (bindC (envOfC qual scope s.heap.objs.size f cd).kindOf (ps.zip us) fun _ => none) s1) :
    Inv (cxOf CX P w K mg base N qual scope f cd A outer s H E) [] (start N vs) H s1 := by
  have hpl : ps.length ≤ N.length := by have := congrArg List.length S.pre; rw [List.length_take] at this; omega
  obtain ⟨h1, tk, rfl, hk⟩ := x.done
  have noA : ∀ b : Addr, b ∉ (cxOf CX P w K mg base N qual scope f cd A outer s H E).ex := fun b z => absurd (show b ∈ ([] : List Addr) from z) (by simp)
  refine ⟨⟨e0.mod, S.kind, rfl, rfl, Nat.le_refl _, fun y z c h1 h2 => ?_, fun y hy => ?_, fun y c _ h => ?_, fun _ => hd, Around.frames_deeper e0.frames, .inr ⟨rfl, rfl⟩, fun b z => absurd z (noA b), e0.bs, e0.bsz, fun b _ _ => noA b, fun b z => absurd z (noA b), e0.funs, e0.frf⟩,
    rfl, e0.bare, Un.kept hk, ⟨_, x.toInCall.ns, fun i y v h1 h2 h3 => ?_⟩, fun y c h => ⟨_, x.cell y c h⟩, e0.hok.fresh (Nat.le_refl _), fun y c h => ?_, fun p hp => absurd (show p ∈ ([] : List (Addr × Obj)) from hp) (by simp), e0.hok.kept hk, ?_⟩
  · exact name_of_addr x.apart (PySem.mem_of_lookup h1) (PySem.mem_of_lookup h2)
  · have hy : scope.names.lookup y = some .cell ∨ scope.names.lookup y = some .free := hy
    rcases hy with hy | hy
    · exact cell_has hy
    · exact absurd rfl (S.nofree _ (PySem.mem_of_lookup hy))
  · exact Nat.le_of_lt (x.above y c (PySem.mem_of_lookup h))
  · have hi : i < vs.length := by
      unfold start at h2
      by_cases hi : i < vs.length
      · exact hi
      · rw [List.getElem?_append_right (by simpa using hi)] at h2
        rw [List.getElem?_replicate] at h2
        split at h2 <;> cases h2
    have ha : vs[i]? = some v := by
      unfold start at h2
      rw [List.getElem?_append_left (by simpa using hi), List.getElem?_map] at h2
      cases e : vs[i]? with
      | none => rw [e] at h2; cases h2
      | some a => rw [e] at h2; cases h2; rfl
    obtain ⟨u, hu, rv⟩ := r.get ha
    have hp : ps[i]? = some y := by
      rw [← S.pre, List.getElem?_take_of_lt (by omega)]; exact h1
    have ndP : ps.Nodup := by rw [← S.pre]; exact S.nd.sublist (List.take_sublist _ _)
    refine ⟨u, rv, ?_⟩
    rcases S.par y (List.mem_of_getElem? hp) with k | k
    · exact .inl ⟨k, bindL_get ndP hp hu k⟩
    · obtain ⟨c, e⟩ := cell_has (n := s.heap.objs.size + 1) k
      refine .inr ⟨.inl k, c, e, ?_⟩
      have q := x.cell y c e
      rw [bindC_get ndP hp hu (by show scope.names.lookup y ≠ _; rw [k]; decide)] at q
      exact q
  · exact e0.hok.fresh (Nat.le_of_lt (x.above y c (PySem.mem_of_lookup h)))
  · unfold start
    show _ = N.length
    rw [List.length_append, List.length_map, List.length_replicate]
    omega
theorem fn_of {CX : CXT} {P : Program} {w : World} {K : PySem.W.Frag} {mg : Str → Option Value} {base : Heap} {k : Nat} {f : Addr} {name qual : Str} {params : Arguments} {body : List Stmt} {scope : Scope} {dV kV doc pm cdv ct oc : Value} {an od : Option Addr}
    {osl : Array (Option Value)} {N ps : List Str} {sp : Sp} (lk : K.lookup f = some ⟨oc, od, .func (PySem.W.fnOf name qual params body scope dV kV doc pm an cdv ct), osl⟩) (hcd : PySem.W.codeIn K cdv qual = true) (S : FnScope N ps scope)
    (len : ∀ vs H Q E, sp vs H Q E → vs.length = ps.length)
    (hbody : ∀ (A : Around) (outer : List Env) (s : Shared) (H : Hp) (vs : List V) (Q : VK) (E : XK), Room k (A.deeper (envOfC qual scope s.heap.objs.size f cdv)) → sp vs H Q E →
      ∃ t, PSs (cxOf CX P w K mg base N qual scope f cdv A outer s H E) body t ∧ t { nx := fun _ H' => Q .non H', rt := Q } (start N vs) H) :
    FnOk P w K mg base CX (k + 1) f (PySem.W.fnOf name qual params body scope dV kV doc pm an cdv ct) ps sp := by
  refine ⟨len, fun A outer s H args us vs Q E hr e0 hb r hsp => ?_⟩
  have hl := len _ _ _ _ hsp
  have KX : K.In s.heap := e0.mod.kin.keeps fun b o e => (e0.bs b o e).1
  have lim : s.heap.NoLimit := e0.mod.nolimit.keeps fun b o e => (e0.bs b o e).1
  have hkind : ∀ y ∈ ps.zip us, scope.names.lookup y.1 = some .local ∨ (scope.names.lookup y.1 = some .cell ∧ ((cellsFrom (s.heap.objs.size + 1) scope.names []).lookup y.1).isSome = true) := fun ⟨n, v⟩ hy => by
    rcases S.par n (List.of_mem_zip hy).1 with q | q
    · exact .inl q
    · exact .inr ⟨q, PySem.W.cellsFrom_some _ _ _ (.inl q)⟩
  refine codeAny_call_function hr.depth (KX _ _ lk) rfl S.co S.gen rfl (PySem.W.codeRec_of KX hcd) (hb _ _ _ _ ?_)
  refine wpAny_newFunctionEnv_cells S.kind hkind fun env he s1 x => ?_
  subst he
  refine ⟨lim.keeps x.toInCall.keep, codeAny_func ?_⟩
  obtain ⟨t, ht, hq⟩ := hbody A outer s H vs Q E (hr.deeper _) hsp
  have I : Inv (cxOf CX P w K mg base N qual scope f cdv A outer s H E) [] (start N vs) H s1 := inv_start S hr.hd e0 hl r x
  refine wpAny_mono (ht [] s1 (start N vs) H _ I hq) (fun fl s' hs => ?_) fun e s' hs => hs
  have fin : ∀ {σ' : St} {H' : Hp} {v : V} {u : Value}, Inv (cxOf CX P w K mg base N qual scope f cdv A outer s H E) [] σ' H' s' → RelV v u → Q v H' → CE outer P w H s Q u s' :=
    fun {σ' H' v u} J rv q => ⟨v, H', J.os, J.bare, J.base, J.hok, rv, q⟩
  cases fl with
  | ret u =>
    obtain ⟨v, σ', H', J, rv, q⟩ := hs
    exact fin J rv q
  | next =>
    obtain ⟨σ', H', J, q⟩ := hs
    exact fin (v := V.non) (u := Value.none) J rfl q
  | brk =>
    obtain ⟨_, _, _, q⟩ := hs
    exact False.elim q
  | cont =>
    obtain ⟨_, _, _, q⟩ := hs
    exact False.elim q
end L2
namespace L2
open PySem PySem.Spec PyProof.Rows
section
variable {X : Cx} {x : Str} {p pos : Pos} {e : Expr} {es : List Expr} {t : TA} {id T : String} {r : List V → Hp → VK → Prop}
def tCB (r : List V → Hp → VK → Prop) (t : TA) : TE := fun σ H Q => t σ H fun vs H1 => r vs H1 Q
theorem pe_callB (hc : CallR X (.builtin id) r) (hg : Gl X x) (hm : X.mg x = none) (hv : bootBuiltins x = some (.builtin id)) (ha : PA X (e :: es) t) (hn : x ≠ "__name__" := by decide) (hdb : (x == ("__debug__" : Str)) = false := by decide)
    (he : starEach (e :: es) X.env = (false, eval e X.env) :: starEach es X.env := by rfl) (hpl : (backTo pos (starEach es X.env)).any (·.1) = false := by rfl) : PE X (.Call (.Name x p) (e :: es) [] pos) (tCB r t) := by
  intro pins s σ H Q I h
  refine wpAny_Call_Name_kw (ld_blt I hg hm hv ?_ hn hdb)
  exact PyProof.Rows.callWith_builtin1 (thn (ha pos pins s σ H _ I h) fun us s1 ⟨vs, H1, I1, r1, q1⟩ => hc pins s1 σ H1 vs us Q I1 r1 q1) he hpl
theorem pe_callTy (hc : CallR X (.type T) r) (hg : Gl X x) (hm : X.mg x = none) (hv : bootBuiltins x = some (.type T)) (ha : PA X (e :: es) t) (hn : x ≠ "__name__" := by decide) (hdb : (x == ("__debug__" : Str)) = false := by decide)
    (he : starEach (e :: es) X.env = (false, eval e X.env) :: starEach es X.env := by rfl) (hpl : (backTo pos (starEach es X.env)).any (·.1) = false := by rfl) : PE X (.Call (.Name x p) (e :: es) [] pos) (tCB r t) := by
  intro pins s σ H Q I h
  refine wpAny_Call_Name_kw (ld_blt I hg hm hv ?_ hn hdb)
  exact PyProof.Rows.callWith_type1 (thn (ha pos pins s σ H _ I h) fun us s1 ⟨vs, H1, I1, r1, q1⟩ => hc pins s1 σ H1 vs us Q I1 r1 q1) he hpl
end
end L2
namespace HT
open PySem PyProof.Rows
section
open PySem.SeqAt
open PySem.AutoSeq1 (wpAny_loadPart')
open PySem.MeetsSeq PySem.MeetsSeq2 PySem.MeetsSeq3
end
section
variable {prog : Program} {w : World} {A : Around} {E : Value → Shared → Prop} {s : Shared}
theorem cat_tup {t b : Addr} {vs ws : List Value} {Q : Value → Shared → Prop} (ht : IsTup s.heap t vs.toArray) (hb : IsTup s.heap b ws.toArray) (hv : vs ≠ [])
    (h1 : ws = [] → Q (.ref t) s) (h2 : ws ≠ [] → Q (.ref s.heap.objs.size) { s with heap := s.heap.push { cls := .type "tuple", data := .seq (vs ++ ws).toArray } })
    (hsz : vs.length + ws.length ≤ sizeLine) : wpAny (model prog w) A (binaryOp .Add (.ref t) (.ref b)) Q E s := by
  obtain ⟨⟨cls, dd, data, sl⟩, ho, hc, n, hd⟩ := id ht
  obtain ⟨⟨cls2, dd2, data2, sl2⟩, ho2, hc2, n2, hd2⟩ := id hb
  simp only at hc hd hc2 hd2
  subst hc hd hc2 hd2
  have e : vs.toArray ++ ws.toArray = (vs ++ ws).toArray := by simp
  by_cases hw : ws = []
  · exact concat_meets ⟨_, ho, rfl⟩ ⟨_, ho2, rfl⟩ noFill_tuple_add seq_tuple_add PySem.F.slot_tuple_add PySem.F.entry_tuple_add (PySem.F.args_tuple_add_2 _ _)
      (tuple_addW1 t b vs.toArray ws.toArray n n2 dd dd2 sl sl2 (by simpa using hv) (by simp [hw])) ⟨ho, ho2, h1 hw⟩
  · refine concat_meets ⟨_, ho, rfl⟩ ⟨_, ho2, rfl⟩ noFill_tuple_add seq_tuple_add PySem.F.slot_tuple_add PySem.F.entry_tuple_add (PySem.F.args_tuple_add_2 _ _)
      (tuple_addW2 t b vs.toArray ws.toArray n n2 dd dd2 sl sl2 (by simpa using hv) (by simpa using hw) (by rw [List.size_toArray, List.size_toArray]; exact hsz)) ⟨ho, ho2, ?_⟩
    rw [e]
    exact h2 hw
def sIx (n d : Nat) : Option Int → Nat
  | none => d
  | some v => if v < 0 then (v + (n : Int)).toNat else min v.toNat n
theorem sIx_none (n d : Nat) : sIx n d none = d := rfl
theorem sIx_nat (n d k : Nat) : sIx n d (some (k : Int)) = min k n := by
  show (if (k : Int) < 0 then ((k : Int) + (n : Int)).toNat else min (k : Int).toNat n) = min k n
  rw [if_neg (by omega), Int.toNat_natCast]
theorem sIx_le (n d : Nat) (hd : d ≤ n) (o : Option Int) : sIx n d o ≤ n := by
  cases o with
  | none => exact hd
  | some v =>
    show (if v < 0 then (v + (n : Int)).toNat else min v.toNat n) ≤ n
    by_cases hv : v < 0
    · rw [if_pos hv]; omega
    · rw [if_neg hv]; exact Nat.min_le_right _ _
theorem clip_eq (v : Int) (n d : Nat) : (if v < 0 then max (v + (n : Int)) 0 else min v (n : Int)) = ((sIx n d (some v) : Nat) : Int) := by
  show (if v < 0 then max (v + (n : Int)) 0 else min v (n : Int)) = (((if v < 0 then (v + (n : Int)).toNat else min v.toNat n) : Nat) : Int)
  by_cases hv : v < 0
  · simp only [if_pos hv]; omega
  · simp only [if_neg hv]; omega
theorem adjust_gen (lo hi : Option Int) (n : Nat) : Builtin.Slice.sliceAdjust lo hi 1 (n : Int) = (((sIx n 0 lo : Nat) : Int), ((sIx n n hi : Nat) : Int)) := by
  have h1 : ¬ ((1 : Int) < 0) := by omega
  unfold Builtin.Slice.sliceAdjust
  simp only [h1, if_false]
  refine Prod.ext ?_ ?_
  · cases lo with
    | none => rfl
    | some v => exact clip_eq v n 0
  · cases hi with
    | none => rfl
    | some v => exact clip_eq v n n
theorem places_gen (i j : Nat) : Builtin.Slice.slicePlaces (i : Int) (j : Int) 1 = j - i := by
  unfold Builtin.Slice.slicePlaces
  have h1 : (1 : Int) > 0 := by omega
  simp only [h1, if_true, Int.ediv_one]
  split <;> omega
theorem slicePart_ {v : Value} {o : Option Int} {Q : Option Int → Shared → Prop} (p : IsPart v o) (h : Q o s) : wpAny (model prog w) A (Builtin.Slice.slicePartIndex v) Q E s := by
  cases p with
  | none => exact slicePart_none h
  | int i t => exact slicePart_int h
theorem sliceApplied_gen {sl : Addr} {vl vu : Value} {lo hi : Option Int} {n : Nat} {Q : Int × Int × Nat → Shared → Prop} (hs : s.heap.IsSliceOf sl vl vu .none) (pl : IsPart vl lo) (pu : IsPart vu hi)
    (h : Q (((sIx n 0 lo : Nat) : Int), 1, sIx n n hi - sIx n 0 lo) s) : wpAny (model prog w) A (Builtin.Slice.sliceApplied (.ref sl) (pure (n : Int))) Q E s := by
  obtain ⟨os, hos, hcs, hds⟩ := id hs
  unfold Builtin.Slice.sliceApplied Builtin.Slice.sliceFields
  refine wpAny_bind (wpAny_bind (wpAny_field hos hds (x := vl) rfl (wpAny_bind (wpAny_field hos hds (x := vu) rfl (wpAny_bind (wpAny_field hos hds (x := .none) rfl (wpAny_pure ?_)))))))
  refine wpAny_bind (slicePart_none ?_)
  show wpAny _ _ (if ((1 : Int) == 0) = true then _ else _) _ _ s
  rw [if_neg (by decide)]
  refine wpAny_bind (slicePart_ pl (wpAny_bind (slicePart_ pu (wpAny_bind (wpAny_pure ?_)))))
  show wpAny _ _ (match Builtin.Slice.sliceAdjust lo hi 1 (n : Int) with | (lo, hi) => pure (lo, (1 : Int), Builtin.Slice.slicePlaces lo hi 1)) _ _ s
  rw [adjust_gen lo hi n]
  show wpAny _ _ (pure (((sIx n 0 lo : Nat) : Int), (1 : Int), Builtin.Slice.slicePlaces ((sIx n 0 lo : Nat) : Int) ((sIx n n hi : Nat) : Int) 1)) _ _ s
  rw [places_gen]
  exact wpAny_pure h
theorem pick_gen (xs : Array Value) (i k : Nat) : ((List.range k).filterMap fun (m : Nat) => xs[((i : Int) + (m : Int) * 1).toNat]?).toArray = ((xs.toList.drop i).take k).toArray := by
  have e : (fun (m : Nat) => xs[((i : Int) + (m : Int) * 1).toNat]?) = fun m => xs[i + m]? := by
    funext m
    have : ((i : Int) + (m : Int) * 1).toNat = i + m := by omega
    rw [this]
  rw [e]
  have := pick_run xs i k
  rw [List.filterMap_map] at this
  have e2 : ((fun x => xs[x]?) ∘ fun x => i + x) = fun m => xs[i + m]? := rfl
  rw [e2] at this
  rw [this]
theorem getItem_tuple_cut {t sl : Addr} {items : Array Value} {vl vu : Value} {lo hi : Option Int} {Q : Value → Shared → Prop} (ht : IsTup s.heap t items) (hs : s.heap.IsSliceOf sl vl vu .none) (pl : IsPart vl lo) (pu : IsPart vu hi)
    (hw : ¬ (sIx items.size 0 lo = 0 ∧ sIx items.size items.size hi = items.size))
    (h : Q (.ref s.heap.objs.size) { s with heap := s.heap.push { cls := .type "tuple", data := .seq ((items.toList.drop (sIx items.size 0 lo)).take (sIx items.size items.size hi - sIx items.size 0 lo)).toArray } })
    (hsz : items.size ≤ sizeLine) : wpAny (model prog w) A (getItem (.ref t) (.ref sl)) Q E s := by
  have htake : sizeOk (.seq ((items.toList.drop (sIx items.size 0 lo)).take (sIx items.size items.size hi - sIx items.size 0 lo)).toArray) := by
    show ((items.toList.drop (sIx items.size 0 lo)).take (sIx items.size items.size hi - sIx items.size 0 lo)).toArray.size ≤ sizeLine
    rw [List.size_toArray, List.length_take, List.length_drop, Array.length_toList]
    omega
  have hj : sIx items.size items.size hi ≤ items.size := sIx_le _ _ (Nat.le_refl _) hi
  obtain ⟨os, hos, hcs, hds⟩ := id hs
  have hTs : s.TypeIs (.ref sl) "slice" := ⟨os, hos, hcs⟩
  unfold getItem
  try with_reducible refine wpAny_holding ?_
  first | refine wpAny_bind (wpAny_pure ?_) | skip
  refine wpAny_bind (wpAny_sequenceKey ht.typeIs (by decide) ?_)
  refine wpAny_bind (wpAny_callSpecial?_slot (name := Str.ofString "__getitem__") ht.typeIs PyProof.Rows.slot_tuple_getitem
    (wpAny_call_entry PyProof.Rows.slot_tuple_getitem ht.typeIs entry_tuple_getitem ?_ (args_tuple_getitem _ _)))
  show wpAny _ _ (Builtin.Tuple.tupleItemsOf (.ref t) >>= _) _ _ s
  refine wpAny_bind (tupleItemsOf_ ht ?_)
  refine wpAny_bind (wpAny_typeOf hTs ?_)
  rw [if_pos (by decide)]
  refine wpAny_bind (sliceApplied_gen hs pl pu ?_)
  have hno : ¬ ((((sIx items.size 0 lo : Nat) : Int) == 0 && (1 : Int) == 1 && (sIx items.size items.size hi - sIx items.size 0 lo) == items.size) = true) := by
    intro q
    rw [Bool.and_eq_true, Bool.and_eq_true] at q
    have q1 : ((sIx items.size 0 lo : Nat) : Int) = 0 := eq_of_beq q.1.1
    have q2 : sIx items.size items.size hi - sIx items.size 0 lo = items.size := eq_of_beq q.2
    exact hw ⟨by omega, by omega⟩
  show wpAny _ _ (if (((sIx items.size 0 lo : Nat) : Int) == 0 && (1 : Int) == 1 && (sIx items.size items.size hi - sIx items.size 0 lo) == items.size) = true then _ else _) _ _ s
  rw [if_neg hno, pick_gen]
  first
    | exact wpAny_bind (m := Builtin.Tuple.tupleExact _) (wpAny_newObj_type (wpAny_pure ⟨_, rfl, wpAny_pure h⟩) htake)
    | exact wpAny_bind (m := Builtin.Tuple.tupleExact _) (wpAny_newObj_type (wpAny_bind (wpAny_pure (wpAny_pure ⟨_, rfl, wpAny_pure h⟩))) htake)
    | exact wpAny_bind (wpAny_bind (m := Builtin.Tuple.tupleExact _) (wpAny_newObj_type (wpAny_pure (wpAny_pure ⟨_, rfl, wpAny_pure h⟩)) htake))
    | exact wpAny_bind (wpAny_bind (m := Builtin.Tuple.tupleExact _) (wpAny_newObj_type (wpAny_pure ⟨_, rfl, wpAny_pure h⟩) htake))
end
end HT
namespace L2
open PySem PySem.Spec PyProof.Rows
abbrev TO := St → Hp → (Option Int → Hp → Prop) → Prop
def PO (X : Cx) (e : Option Expr) (t : TO) : Prop :=
  ∀ (pins : List (Addr × Obj)) (s : Shared) (σ : St) (H : Hp) (Q : Option Int → Hp → Prop), Inv X pins σ H s → t σ H Q →
    wpAny (model X.prog X.w) X.A (evalPart e X.env) (fun u s' => ∃ o H', Inv X pins σ H' s' ∧ IsPart u o ∧ Q o H') X.xe s
def tNoPart : TO := fun _ H Q => Q none H
def tPart (t : TE) : TO := fun σ H Q => t σ H fun x H1 => ∃ i, x = .int i ∧ Q (some i) H1
theorem intsAre_of {ns : List Int} : ∀ {us : List Value}, Vals (ns.map V.int) us → IntsAre us ns := by
  induction ns with
  | nil => intro us r; rw [List.map_nil] at r; cases r; exact .nil
  | cons n ns ih =>
    intro us r
    rw [List.map_cons] at r
    cases r with
    | cons r1 r2 =>
      obtain ⟨t, e⟩ := r1
      subst e
      exact .cons n t (ih r2)
section
variable {X : Cx} {e : Expr} {te : TE} {lo hi : Option Expr} {tl th : TO} {pos p2 : Pos}
theorem po_none : PO X none tNoPart := by
  intro pins s σ H Q I h
  rw [evalPart_none]
  exact wpAny_pure ⟨none, H, I, .none, h⟩
theorem po_some (h : PE X e te) : PO X (some e) (tPart te) := by
  intro pins s σ H Q I hw
  rw [evalPart_some]
  refine thn (h pins s σ H _ I hw) fun u s1 ⟨x, H1, I1, r1, q1⟩ => ?_
  obtain ⟨i, rfl, q⟩ := q1
  obtain ⟨t, rfl⟩ := r1
  exact ⟨some i, H1, I1, .int i t, q⟩
def SlR (X : Cx) (r : V → Option Int → Option Int → Hp → VK → Prop) : Prop :=
  ∀ (pins : List (Addr × Obj)) (s : Shared) (σ : St) (H : Hp) (x : V) (v vl vu : Value) (lo hi : Option Int) (sl : Addr) (Q : VK), Inv X pins σ H s → RelV x v → s.heap.IsSliceOf sl vl vu .none → IsPart vl lo → IsPart vu hi → r x lo hi H Q →
    ∃ T id, typeLookup (.type T) "__getitem__" = pure (some (.builtin id)) ∧ s.TypeIs v T ∧ wpAny (model X.prog X.w) X.A (getItem v (.ref sl)) (EP X pins σ Q) X.xe s
def tSl (r : V → Option Int → Option Int → Hp → VK → Prop) (te : TE) (tl th : TO) : TE := fun σ H Q => te σ H fun x H1 => tl σ H1 fun l H2 => th σ H2 fun u H3 => r x l u H3 Q
theorem pe_slice {r : V → Option Int → Option Int → Hp → VK → Prop} (hr : SlR X r) (he : PE X e te) (hl : PO X lo tl) (hu : PO X hi th) : PE X (.Subscript e (.Slice lo hi none p2) pos) (tSl r te tl th) := by
  intro pins s σ H Q I h
  refine Subscript_ (thn (he pins s σ H _ I h) fun v s1 ⟨x, H1, I1, r1, q1⟩ => ?_)
  refine wpAny_Slice (thn (hl pins s1 σ H1 _ I1 q1) fun vl s2 ⟨l, H2, I2, pl, q2⟩ => thn (hu pins s2 σ H2 _ I2 q2) fun vu s3 ⟨u, H3, I3, pu, q3⟩ => ?_)
  rw [evalPart_none]
  refine wpAny_pure ?_
  have I4 : Inv X pins σ H3 { s3 with heap := s3.heap.push { cls := .type "slice", data := .fields #[vl, vu, .none] } } := I3.kept (t' := s3.toks) fun b ob q => Heap.get?_push_of_some _ q
  obtain ⟨T, id, hT, ht, hg⟩ := hr pins { s3 with heap := s3.heap.push { cls := .type "slice", data := .fields #[vl, vu, .none] } } σ H3 x v vl vu l u s3.heap.objs.size Q I4 r1 (Heap.IsSliceOf.new ..) pl pu q3
  show wpAny (model X.prog X.w) X.A (subscriptTail e (.Slice lo hi none p2) v (.ref s3.heap.objs.size)) (EP X pins σ Q) X.xe { s3 with heap := s3.heap.push { cls := .type "slice", data := .fields #[vl, vu, .none] } }
  exact tail_any (ops := [.ref s3.heap.objs.size, v]) ht hT hg (by with_unfolding_all rfl)
def cutV (xs : List V) (lo hi : Option Int) : List V := (xs.drop (HT.sIx xs.length 0 lo)).take (HT.sIx xs.length xs.length hi - HT.sIx xs.length 0 lo)
theorem cutV_length (xs : List V) (lo hi : Option Int) : (cutV xs lo hi).length ≤ xs.length := by
  unfold cutV
  rw [List.length_take, List.length_drop]
  omega
def rSlT (K : PySem.W.Frag) : V → Option Int → Option Int → Hp → VK → Prop := fun x lo hi H Q => ∃ a xs, x = .ref a ∧ SqT K H a xs ∧
  ¬ (HT.sIx xs.length 0 lo = 0 ∧ HT.sIx xs.length xs.length hi = xs.length) ∧ ∀ p, H p = none → Q (.ref p) (upd H p (.tup (cutV xs lo hi)))
theorem sl_tup : SlR X (rSlT X.K) := by
  intro pins s σ H x v vl vu lo hi sl Q I rx hs pl pu h
  obtain ⟨a, xs, rfl, hx, hw, q⟩ := h
  cases rx
  obtain ⟨its, r, ht, hz⟩ := I.tuple hx
  have hlen : its.toArray.size = xs.length := by rw [List.size_toArray]; exact r.length.symm
  refine ⟨"tuple", _, PyProof.Rows.slot_tuple_getitem.lookup, ht.typeIs, ?_⟩
  refine HT.getItem_tuple_cut ht hs pl pu (by rw [hlen]; exact hw) ?_ (by rw [hlen]; exact hz)
  rw [hlen]
  refine ⟨.ref s.heap.objs.size, _, I.laid (t' := s.toks) (o := .tup (cutV xs lo hi)) (fun b ob q => Heap.get?_push_of_some _ q) (Nat.le_refl _) ?_, rfl, q _ (I.hok.fresh (Nat.le_refl _))⟩
  exact ⟨Nat.le_trans (cutV_length xs lo hi) hz, _, (r.drop (HT.sIx xs.length 0 lo)).take (HT.sIx xs.length xs.length hi - HT.sIx xs.length 0 lo), IsTup.new _ _⟩
def rCatT (K : PySem.W.Frag) : R2 := fun x y H Q => ∃ a b xs ys, x = .ref a ∧ y = .ref b ∧ SqT K H a xs ∧ SqT K H b ys ∧ xs ≠ [] ∧ xs.length + ys.length ≤ sizeLine ∧
  (ys = [] → Q (.ref a) H) ∧ (ys ≠ [] → ∀ p, H p = none → Q (.ref p) (upd H p (.tup (xs ++ ys))))
theorem Vals.nil_iff {xs : List V} {us : List Value} (r : Vals xs us) : us = [] ↔ xs = [] := by
  cases r with
  | nil => simp
  | cons _ _ => simp
theorem op_catT : OpR X (binaryOp .Add) (rCatT X.K) := by
  intro pins s σ H x y v u Q I rx ry h
  obtain ⟨a, b, xs, ys, rfl, rfl, ha, hb, hx, hz, q1, q2⟩ := h
  cases rx
  cases ry
  obtain ⟨its, r1, p1, _⟩ := I.tuple ha
  obtain ⟨its2, r2, p2, _⟩ := I.tuple hb
  refine HT.cat_tup p1 p2 (fun z => hx (r1.nil_iff.mp z)) (fun z => ⟨.ref a, H, I, rfl, q1 (r2.nil_iff.mp z)⟩) (fun z => ?_) (by rw [← r1.length, ← r2.length]; exact hz)
  refine ⟨.ref s.heap.objs.size, _, I.laid (t' := s.toks) (o := .tup (xs ++ ys)) (fun b ob q => Heap.get?_push_of_some _ q) (Nat.le_refl _) ?_, rfl, q2 (fun w => z (r2.nil_iff.mpr w)) _ (I.hok.fresh (Nat.le_refl _))⟩
  exact ⟨by rw [List.length_append]; exact hz, _, r1.append r2, IsTup.new _ _⟩
end
end L2
namespace L2
open PySem PySem.Spec PyProof.Rows
def ixN (n : Nat) (i : Int) : Option Nat := if 0 ≤ i then (if i < n then some i.toNat else none) else if -(n : Int) ≤ i then some (i + n).toNat else none
def atI {α : Type} (xs : List α) (i : Int) : Option α := (ixN xs.length i).bind fun j => xs[j]?
theorem ixN_seq {n : Nat} {i : Int} {j : Nat} (h : ixN n i = some j) : seqIndex? i n = some j ∧ j < n ∧ -(n : Int) ≤ i ∧ i < n := by
  unfold ixN at h
  by_cases h0 : 0 ≤ i
  · rw [if_pos h0] at h
    by_cases h1 : i < n
    · rw [if_pos h1] at h
      have e : i.toNat = j := Option.some.inj h
      exact ⟨by rw [seqIndex_of h0 h1, e], by omega, by omega, h1⟩
    · rw [if_neg h1] at h; cases h
  · rw [if_neg h0] at h
    by_cases h1 : -(n : Int) ≤ i
    · rw [if_pos h1] at h
      have e : (i + n).toNat = j := Option.some.inj h
      exact ⟨by rw [seqIndex_neg (by omega) h1, e], by omega, h1, by omega⟩
    · rw [if_neg h1] at h; cases h
theorem atI_get {α : Type} {xs : List α} {i : Int} {v : α} (h : atI xs i = some v) : ∃ j, seqIndex? i xs.length = some j ∧ xs[j]? = some v ∧ j < xs.length ∧ -(xs.length : Int) ≤ i ∧ i < xs.length := by
  unfold atI at h
  cases e : ixN xs.length i with
  | none => rw [e] at h; cases h
  | some j =>
    rw [e] at h
    obtain ⟨h1, h2, h3, h4⟩ := ixN_seq e
    exact ⟨j, h1, h, h2, h3, h4⟩
theorem atI_nat {α : Type} {xs : List α} {j : Nat} {v : α} (h : xs[j]? = some v) : atI xs (j : Int) = some v := by
  have hj : j < xs.length := (List.getElem?_eq_some_iff.mp h).1
  have e : ixN xs.length (j : Int) = some j := by
    unfold ixN
    rw [if_pos (by omega), if_pos (by omega)]; simp
  unfold atI; rw [e]; exact h
def PlainIx (b : Expr) : Prop := ∀ o i, subscripted b false o i = operate [o, i] (getItem o i)
def IxR (X : Cx) (r : R2) : Prop :=
  ∀ (value slice : Expr) (pins : List (Addr × Obj)) (s : Shared) (σ : St) (H : Hp) (x y : V) (v u : Value) (Q : VK), Inv X pins σ H s → RelV x v → RelV y u → r x y H Q →
    subscripted slice false v u = operate [v, u] (getItem v u) → wpAny (model X.prog X.w) X.A (subscriptTail value slice v u) (EP X pins σ Q) X.xe s
def MtR (X : Cx) (id : String) (r : V → List V → Hp → VK → Prop) : Prop :=
  ∀ (pins : List (Addr × Obj)) (s : Shared) (σ : St) (H : Hp) (x : V) (xs : List V) (v : Value) (us : List Value) (Q : VK), Inv X pins σ H s → RelV x v → Vals xs us → r x xs H Q →
    wpAny (model X.prog X.w) X.A (call (.builtin id) (v :: us)) (EP X pins σ Q) X.xe s
section
variable {X : Cx} {a b : Expr} {ta tb : TE} {pos : Pos}
theorem IxR.or {r r' : R2} (h : IxR X r) (h' : IxR X r') : IxR X (fun x y H Q => r x y H Q ∨ r' x y H Q) := by
  intro value slice pins s σ H x y v u Q I rx ry q hs
  rcases q with q | q
  · exact h value slice pins s σ H x y v u Q I rx ry q hs
  · exact h' value slice pins s σ H x y v u Q I rx ry q hs
theorem pe_ix {r : R2} (hr : IxR X r) (ha : PE X a ta) (hb : PE X b tb) (hs : PlainIx b) : PE X (.Subscript a b pos) (tOp r ta tb) := by
  intro pins s σ H Q I h
  exact Subscript_ (binT ha hb I h fun v u s2 x y H2 I2 rx ry q => hr a b pins s2 σ H2 x y v u Q I2 rx ry q (hs _ _))
def rIxL (K : PySem.W.Frag) : R2 := fun x y H Q => ∃ p xs i v, x = .ref p ∧ y = .int i ∧ SqL K H p xs ∧ atI xs i = some v ∧ Q v H
def rIxT (K : PySem.W.Frag) : R2 := fun x y H Q => ∃ p xs i v, x = .ref p ∧ y = .int i ∧ SqT K H p xs ∧ atI xs i = some v ∧ Q v H
theorem ix_list : IxR X (rIxL X.K) := by
  intro value slice pins s σ H x y v u Q I rx ry h hs
  obtain ⟨p, xs, i, z, rfl, rfl, hq, he, q⟩ := h
  cases rx
  obtain ⟨t, rfl⟩ := ry
  obtain ⟨its, r, pl, hz⟩ := I.list hq
  obtain ⟨j, h1, h2, h3, h4, h5⟩ := atI_get he
  obtain ⟨w, ew, rw'⟩ := r.get h2
  have hl := r.length
  have hn := line63
  have fin : EP X pins σ Q w s := ⟨z, H, I, rw', q⟩
  by_cases h0 : 0 ≤ i
  · have hj : i.toNat = j := by
      rw [seqIndex_of h0 h5] at h1
      exact Option.some.inj h1
    exact item_listR pl.isList h0 (by omega) (by rw [hj]; simpa using ew) fin hs
  · have hj : (i + (its.toArray.size : Int)).toNat = j := by
      rw [seqIndex_neg (by omega) h4] at h1
      rw [List.size_toArray, ← hl]
      exact Option.some.inj h1
    exact subscriptTail_builtinR (x := w) pl.isList.typeIs slot_list_getitem.lookup
      (wpAny_getItem_list_neg (Q := fun r s' => r = w ∧ EP X pins σ Q r s') pl.isList (by omega) (by rw [List.size_toArray] <;> omega) (by omega) (by rw [hj]; simpa using ew) ⟨rfl, fin⟩) hs
theorem ix_tup : IxR X (rIxT X.K) := by
  intro value slice pins s σ H x y v u Q I rx ry h hs
  obtain ⟨p, xs, i, z, rfl, rfl, hq, he, q⟩ := h
  cases rx
  obtain ⟨t, rfl⟩ := ry
  obtain ⟨its, r, pl, hz⟩ := I.tuple hq
  obtain ⟨j, h1, h2, h3, h4, h5⟩ := atI_get he
  obtain ⟨w, ew, rw'⟩ := r.get h2
  have hl := r.length
  have hn := line63
  have fin : EP X pins σ Q w s := ⟨z, H, I, rw', q⟩
  exact subscriptTail_builtinR (x := w) pl.typeIs slot_tuple_getitem.lookup
    (getItem_tuple (j := j) (Q := fun r s' => r = w ∧ EP X pins σ Q r s') pl (by omega) (by omega) (by rw [List.size_toArray, ← hl]; exact h1) (by simpa using ew) ⟨rfl, fin⟩) hs
theorem mapSeq_set (its : List Value) (n j : Nat) (u : Value) : Obj.mapSeq (·.setIfInBounds j u) { cls := .type "list", data := .seq its.toArray n } = { cls := .type "list", data := .seq (its.set j u).toArray n } := by
  simp [Obj.mapSeq]
theorem Inv.lst {pins : List (Addr × Obj)} {σ : St} {H : Hp} {s : Shared} {p : Addr} {xs : List V} (I : Inv X pins σ H s) (h : H p = some (.lst xs)) :
    ∃ (its : List Value) (n : Nat), Vals xs its ∧ s.heap.get? p = some { cls := .type "list", data := .seq its.toArray n } ∧ xs.length ≤ sizeLine := by
  obtain ⟨z, its, n, r, e⟩ := I.hok p _ h
  exact ⟨its, n, r, e, z⟩
theorem Inv.lstUpd {pins : List (Addr × Obj)} {σ : St} {H : Hp} {s : Shared} {p : Addr} {xs ys : List V} {its its' : List Value} {n n' : Nat} {f : Obj → Obj} (I : Inv X pins σ H s) (h : H p = some (.lst xs))
    (ho : s.heap.get? p = some { cls := .type "list", data := .seq its.toArray n }) (hf : f { cls := .type "list", data := .seq its.toArray n } = { cls := .type "list", data := .seq its'.toArray n' }) (r : Vals ys its') (hz : ys.length ≤ sizeLine) (t : Nat) :
    Inv X pins σ (upd H p (.lst ys)) { s with heap := s.heap.update p f, toks := t } := by
  have e : (s.heap.update p f).get? p = some { cls := .type "list", data := .seq its'.toArray n' } := by
    rw [Heap.get?_update_self f ho (by rw [hf] <;> rfl), hf]
  refine I.write (x := p) (e := p) (by rw [h]; trivial) (.inl rfl) (fun b u hb q => (Heap.get?_update_other _ _ (Ne.symm hb)).trans q) ⟨_, e⟩ ?_
  exact ⟨hz, its', n', r, e⟩
def rSetL : V → V → V → Hp → (Hp → Prop) → Prop := fun o i v H Q => ∃ p xs k j, o = .ref p ∧ i = .int k ∧ H p = some (.lst xs) ∧ ixN xs.length k = some j ∧ Q (upd H p (.lst (xs.set j v)))
theorem set_list : PSet X rSetL := by
  intro pins s σ H o i v ov iv u Q I ro ri rv h
  obtain ⟨p, xs, k, j, rfl, rfl, hp, hj, q⟩ := h
  cases ro
  obtain ⟨t, rfl⟩ := ri
  obtain ⟨its, n, r, ho, hz⟩ := I.lst hp
  obtain ⟨h1, h2, h3, h4⟩ := ixN_seq hj
  have hl := r.length
  have hn := line63
  have I' : Inv X pins σ (upd H p (.lst (xs.set j v))) { s with heap := s.heap.update p (Obj.mapSeq (·.setIfInBounds j u)) } :=
    I.lstUpd hp ho (mapSeq_set its n j u) (r.set rv j) (by rw [List.length_set]; exact hz) s.toks
  by_cases h0 : 0 ≤ k
  · have hk : k.toNat = j := by
      rw [seqIndex_of h0 h4] at h1
      exact Option.some.inj h1
    exact PySem.W.ki_setAt ho h0 (by omega) (by rw [List.size_toArray, ← hl]; exact h4) (by rw [hk]; exact ⟨_, I', q⟩)
  · have hk : (k + (its.toArray.size : Int)).toNat = j := by
      rw [seqIndex_neg (by omega) h3] at h1
      rw [List.size_toArray, ← hl]
      exact Option.some.inj h1
    exact PySem.W.ki_setBack ho (by omega) (by rw [List.size_toArray, ← hl]; exact h3) (by omega) (by rw [hk]; exact ⟨_, I', q⟩)
theorem slice_bounds (lo hi : Option Int) (n : Nat) : (sliceBounds lo hi none n).1 = ((HT.sIx n 0 lo : Nat) : Int) ∧ (sliceBounds lo hi none n).2.1 = ((HT.sIx n n hi : Nat) : Int) ∧ (sliceBounds lo hi none n).2.2 = 1 := by
  refine ⟨?_, ?_, rfl⟩
  · cases lo with
    | none => simp [sliceBounds, HT.sIx]
    | some i =>
      simp only [sliceBounds, HT.sIx, Option.getD_none, show (1 : Int) > 0 by decide, if_true]
      by_cases h : i < 0
      · simp only [h, if_true] <;> omega
      · simp only [h, if_false] <;> omega
  · cases hi with
    | none => simp [sliceBounds, HT.sIx]
    | some i =>
      simp only [sliceBounds, HT.sIx, Option.getD_none, show (1 : Int) > 0 by decide, if_true]
      by_cases h : i < 0
      · simp only [h, if_true] <;> omega
      · simp only [h, if_false] <;> omega
theorem slicePick_cut (its : List Value) (lo hi : Option Int) : slicePick its.toArray lo hi none = ((its.drop (HT.sIx its.length 0 lo)).take (HT.sIx its.length its.length hi - HT.sIx its.length 0 lo)).toArray := by
  obtain ⟨h1, h2, h3⟩ := slice_bounds lo hi its.toArray.size
  unfold slicePick
  rw [h1, h2, h3]
  simp only [sliceRange_one, pick_run, List.size_toArray] <;> rfl
def rSlL (K : PySem.W.Frag) : V → Option Int → Option Int → Hp → VK → Prop := fun x lo hi H Q => ∃ a xs, x = .ref a ∧ SqL K H a xs ∧ ∀ p, H p = none → Q (.ref p) (upd H p (.lst (cutV xs lo hi)))
theorem sl_list : SlR X (rSlL X.K) := by
  intro pins s σ H x v vl vu lo hi sl Q I rx hs pl pu h
  obtain ⟨a, xs, rfl, hx, q⟩ := h
  cases rx
  obtain ⟨its, r, ht, hz⟩ := I.list hx
  have hlen := r.length
  refine ⟨"list", _, slot_list_getitem.lookup, ht.isList.typeIs, ?_⟩
  refine wpAny_getItem_list_slice ht.isList hs pl pu .none (by simp) ?_ (by rw [List.size_toArray] <;> omega)
  rw [slicePick_cut, ← hlen]
  refine ⟨.ref s.heap.objs.size, _, I.laid (t' := s.toks) (o := .lst (cutV xs lo hi)) (fun b ob q => Heap.get?_push_of_some _ q) (Nat.le_refl _) ?_, rfl, q _ (I.hok.fresh (Nat.le_refl _))⟩
  exact ⟨Nat.le_trans (cutV_length xs lo hi) hz, _, 0, (r.drop (HT.sIx xs.length 0 lo)).take (HT.sIx xs.length xs.length hi - HT.sIx xs.length 0 lo), Heap.get?_push_size _ rfl⟩
def flatV : V → Bool
  | .non => true
  | .bl _ => true
  | .int _ => true
  | .str _ => true
  | _ => false
def eqV : V → V → Bool
  | .non, .non => true
  | .bl a, .bl b => a == b
  | .bl a, .int b => (if a then 1 else 0) == b
  | .int a, .bl b => a == (if b then 1 else 0)
  | .int a, .int b => a == b
  | .str a, .str b => a == b
  | _, _ => false
theorem eqAt_V {A : Around} {s : Shared} {y x : V} {u v : Value} (ry : RelV y u) (rx : RelV x v) (fy : flatV y = true) (fx : flatV x = true) : SeqAt.EqAt A s u v (eqV y x) := by
  cases y with
  | non =>
    cases ry
    cases x with
    | non => cases rx; exact SeqAt.EqAt.same _
    | bl b => cases rx; exact SeqAt.EqAt.none_bool b
    | int b => obtain ⟨t, rfl⟩ := rx; exact SeqAt.EqAt.none_int b t
    | str b => obtain ⟨t, rfl⟩ := rx; exact SeqAt.EqAt.none_str b t
    | _ => exact absurd (show false = true from fx) Bool.false_ne_true
  | bl a =>
    cases ry
    cases x with
    | non => cases rx; exact SeqAt.EqAt.bool_none a
    | bl b => cases rx; exact SeqAt.EqAt.bool_bool a b
    | int b => obtain ⟨t, rfl⟩ := rx; exact SeqAt.EqAt.bool_int a b t
    | str b => obtain ⟨t, rfl⟩ := rx; exact SeqAt.EqAt.bool_str a b t
    | _ => exact absurd (show false = true from fx) Bool.false_ne_true
  | int a =>
    obtain ⟨t', rfl⟩ := ry
    cases x with
    | non => cases rx; exact SeqAt.EqAt.int_none a t'
    | bl b => cases rx; exact SeqAt.EqAt.int_bool a t' b
    | int b => obtain ⟨t, rfl⟩ := rx; exact SeqAt.EqAt.int_int a t' b t
    | str b => obtain ⟨t, rfl⟩ := rx; exact SeqAt.EqAt.int_str a t' b t
    | _ => exact absurd (show false = true from fx) Bool.false_ne_true
  | str a =>
    obtain ⟨t', rfl⟩ := ry
    cases x with
    | non => cases rx; exact SeqAt.EqAt.str_none a t'
    | bl b => cases rx; exact SeqAt.EqAt.str_bool a t' b
    | int b => obtain ⟨t, rfl⟩ := rx; exact SeqAt.EqAt.str_int a t' b t
    | str b => obtain ⟨t, rfl⟩ := rx; exact SeqAt.EqAt.str_str a t' b t
    | _ => exact absurd (show false = true from fx) Bool.false_ne_true
  | _ => exact absurd (show false = true from fy) Bool.false_ne_true
def eqU (x : V) (u : Value) : Bool := match u with
  | .none => eqV .non x
  | .bool b => eqV (.bl b) x
  | .int i _ => eqV (.int i) x
  | .str z _ => eqV (.str z) x
  | _ => false
theorem eqU_of {x y : V} {u : Value} (r : RelV y u) (f : flatV y = true) : eqU x u = eqV y x := by
  cases y with
  | non => cases r; rfl
  | bl b => cases r; rfl
  | int i => obtain ⟨t, rfl⟩ := r; rfl
  | str z => obtain ⟨t, rfl⟩ := r; rfl
  | _ => exact absurd (show false = true from f) Bool.false_ne_true
theorem any_eqU {x : V} : ∀ {xs : List V} {us : List Value}, Vals xs us → xs.all flatV = true → us.any (eqU x) = xs.any fun y => eqV y x
  | _, _, .nil, _ => rfl
  | y :: xs, u :: us, .cons r t, f => by
    rw [List.all_cons, Bool.and_eq_true] at f
    rw [List.any_cons, List.any_cons, eqU_of r f.1, any_eqU t f.2]
theorem mem_eqAt {A : Around} {s : Shared} {x : V} {v : Value} (rx : RelV x v) (fx : flatV x = true) : ∀ {xs : List V} {us : List Value}, Vals xs us → xs.all flatV = true → ∀ u ∈ us, SeqAt.EqAt A s u v (eqU x u)
  | _, _, .nil, _ => fun u hu => by cases hu
  | y :: xs, u :: us, .cons r t, f => fun u' hu => by
    rw [List.all_cons, Bool.and_eq_true] at f
    rcases List.mem_cons.mp hu with rfl | hu
    · rw [eqU_of r f.1]; exact eqAt_V r rx f.1 fx
    · exact mem_eqAt rx fx t f.2 u' hu
def inV (x : V) (xs : List V) : Bool := xs.any fun y => eqV y x
def rIn (K : PySem.W.Frag) (neg : Bool) : R2 := fun x y H Q => ∃ p xs, y = .ref p ∧ (SqL K H p xs ∨ SqT K H p xs) ∧ flatV x = true ∧ xs.all flatV = true ∧ Q (.bl (if neg then !inV x xs else inV x xs)) H
theorem op_in_seq : OpR X (compareOp .In) (rIn X.K false) := by
  intro pins s σ H x y v u Q I rx ry h
  obtain ⟨p, xs, rfl, hq, fx, fs, q⟩ := h
  cases ry
  rcases hq with hq | hq
  · obtain ⟨its, r, pl, hz⟩ := I.list hq
    refine SeqAt.in_listAt (eqU x) pl.isList (fun w hw => mem_eqAt rx fx r fs w (by simpa using hw)) ⟨.bl _, H, I, rfl, ?_⟩
    rw [show its.toArray.any (eqU x) = its.any (eqU x) by simp, any_eqU r fs]
    exact q
  · obtain ⟨its, r, pl, hz⟩ := I.tuple hq
    refine SeqAt.in_tupleAt (eqU x) pl (fun w hw => mem_eqAt rx fx r fs w (by simpa using hw)) ⟨.bl _, H, I, rfl, ?_⟩
    rw [show its.toArray.any (eqU x) = its.any (eqU x) by simp, any_eqU r fs]
    exact q
theorem call_len_seq : CallR X (.builtin "len") (fun xs H Q => ∃ p ys, xs = [.ref p] ∧ (SqL X.K H p ys ∨ SqT X.K H p ys) ∧ Q (.int ys.length) H) := by
  intro pins s σ H xs us Q I r h
  obtain ⟨p, ys, rfl, hq, q⟩ := h
  obtain ⟨u, rfl, rx⟩ := vals1 r
  cases rx
  have hn := line63
  rcases hq with hq | hq
  · obtain ⟨its, r', pl, hz⟩ := I.list hq
    have hlen := r'.length
    exact Calls.call_len_list pl.isList (by simp only [List.size_toArray] <;> omega) ⟨.int ys.length, H, I.tok _, ⟨s.toks + 1, by rw [List.size_toArray, hlen]⟩, q⟩
  · obtain ⟨its, r', pl, hz⟩ := I.tuple hq
    have hlen := r'.length
    exact len_tuple pl (by simp only [List.size_toArray] <;> omega) ⟨.int ys.length, H, I.tok _, ⟨s.toks + 1, by rw [List.size_toArray, hlen]⟩, q⟩
theorem call_len_str : CallR X (.builtin "len") (fun xs H Q => ∃ z, xs = [.str z] ∧ z.length ≤ sizeLine ∧ Q (.int z.length) H) := by
  intro pins s σ H xs us Q I r h
  obtain ⟨z, rfl, hz, q⟩ := h
  obtain ⟨u, rfl, t, rfl⟩ := vals1 r
  have hn := line63
  exact len_str (by omega) ⟨.int z.length, H, I.tok _, ⟨_, rfl⟩, q⟩
theorem CallR.or {f : Value} {r r' : List V → Hp → VK → Prop} (h : CallR X f r) (h' : CallR X f r') : CallR X f (fun xs H Q => r xs H Q ∨ r' xs H Q) := by
  intro pins s σ H xs us Q I rs q
  rcases q with q | q
  · exact h pins s σ H xs us Q I rs q
  · exact h' pins s σ H xs us Q I rs q
theorem call_list_of : CallR X (.type "list") (fun xs H Q => ∃ p ys, xs = [.ref p] ∧ (SqL X.K H p ys ∨ SqT X.K H p ys) ∧ ∀ l, H l = none → Q (.ref l) (upd H l (.lst ys))) := by
  intro pins s σ H xs us Q I r h
  obtain ⟨p, ys, rfl, hq, q⟩ := h
  obtain ⟨u, rfl, rx⟩ := vals1 r
  cases rx
  have fin : ∀ (its : List Value), Vals ys its → ys.length ≤ sizeLine → ∀ (h' : Heap) (c' : Nat), (∀ b o', s.heap.get? b = some o' → h'.get? b = some o') →
      h'.get? s.heap.objs.size = some { cls := .type "list", dict := none, data := .seq its.toArray c', slots := #[] } → EP X pins σ Q (.ref s.heap.objs.size) { s with heap := h' } := fun its r' hz h' c' kp e =>
    ⟨.ref s.heap.objs.size, _, I.laid (t' := s.toks) kp (Nat.le_refl _) (show ObjOk X.prog X.w _ h' _ (.lst ys) from ⟨hz, its, c', r', e⟩), rfl, q _ (I.hok.fresh (Nat.le_refl _))⟩
  rcases hq with hq | hq
  · obtain ⟨its, r', pl, hz⟩ := I.list hq
    have hlen := r'.length
    obtain ⟨o, ho, hc, n, hd⟩ := pl.isList
    exact call_list_seq p (.inl rfl) ho hc hd (fun h' c' kp e => fin its r' hz h' c' kp e) (by simp only [List.size_toArray] <;> omega)
  · obtain ⟨its, r', pl, hz⟩ := I.tuple hq
    have hlen := r'.length
    obtain ⟨o, ho, hc, n, hd⟩ := pl
    exact call_list_seq p (.inr rfl) ho hc hd (fun h' c' kp e => fin its r' hz h' c' kp e) (by simp only [List.size_toArray] <;> omega)
theorem call_tuple_of : CallR X (.type "tuple") (fun xs H Q => ∃ p ys, xs = [.ref p] ∧ ((SqL X.K H p ys ∧ ∀ l, H l = none → Q (.ref l) (upd H l (.tup ys))) ∨ (SqT X.K H p ys ∧ Q (.ref p) H))) := by
  intro pins s σ H xs us Q I r h
  obtain ⟨p, ys, rfl, h⟩ := h
  obtain ⟨u, rfl, rx⟩ := vals1 r
  cases rx
  rcases h with ⟨hq, q⟩ | ⟨hq, q⟩
  · obtain ⟨its, r', pl, hz⟩ := I.list hq
    have hlen := r'.length
    refine call_tuple_list pl.isList (fun h' kp => ?_) (by simp only [List.size_toArray] <;> omega)
    have I1 : Inv X pins σ H { s with heap := h' } := I.kept (t' := s.toks) kp
    have I2 : Inv X pins σ (upd H h'.objs.size (.tup ys)) { s with heap := h'.push { cls := .type "tuple", data := .seq its.toArray } } :=
      I1.laid (t' := s.toks) (fun b o e => Heap.get?_push_of_some _ e) (Nat.le_refl _) (show ObjOk X.prog X.w _ _ _ (.tup ys) from ⟨hz, its, r', IsTup.new _ _⟩)
    exact ⟨.ref h'.objs.size, _, I2, rfl, q _ (I1.hok.fresh (Nat.le_refl _))⟩
  · obtain ⟨its, r', pl, hz⟩ := I.tuple hq
    exact call_tuple_same pl ⟨.ref p, H, I, rfl, q⟩
def tyV (K : PySem.W.Frag) (T : String) (x : V) (H : Hp) : Prop := match x with
  | .str _ => T = "str"
  | .int _ => T = "int"
  | .ref p => (T = "list" ∧ ∃ xs, SqL K H p xs) ∨ (T = "tuple" ∧ ∃ o, K.lookup p = some o ∧ o.cls = .type "tuple" ∧ o.dict = none) ∨
      (T = "dict" ∧ ((∃ kvs, H p = some (.dK kvs)) ∨ ∃ kvs, H p = some (.dT kvs))) ∨ (T = "set" ∧ ∃ S n, H p = some (.set S n))
  | _ => False
theorem tyV_is {pins : List (Addr × Obj)} {σ : St} {H : Hp} {s : Shared} {T : String} {x : V} {v : Value} (I : Inv X pins σ H s) (r : RelV x v) (ty : tyV X.K T x H) :
    s.TypeIs v T ∧ ∀ a, v = .ref a → ∃ ob, s.heap.get? a = some ob ∧ ob.dict = none := by
  cases x with
  | str z =>
    obtain ⟨t, rfl⟩ := r
    cases (show T = "str" from ty)
    exact ⟨typeIs_str s z t, fun _ e => nomatch e⟩
  | int i =>
    obtain ⟨t, rfl⟩ := r
    cases (show T = "int" from ty)
    exact ⟨typeIs_int s i t, fun _ e => nomatch e⟩
  | ref p =>
    cases r
    rcases ty with ⟨rfl, xs, hq⟩ | ⟨rfl, o, hk, hc, hd⟩ | ⟨rfl, hk⟩ | ⟨rfl, S, n, hk⟩
    · obtain ⟨its, _, pl, _⟩ := I.list hq
      refine ⟨pl.isList.typeIs, fun a e => ?_⟩
      cases e
      obtain ⟨o, n, e, c, hd, _⟩ := pl
      exact ⟨o, e, hd⟩
    · refine ⟨⟨o, I.kIn p o hk, hc⟩, fun a e => ?_⟩
      cases e
      exact ⟨o, I.kIn _ o hk, hd⟩
    · have z : ∃ o, s.heap.get? p = some o ∧ o.ExactDict := by
        rcases hk with ⟨kvs, hk⟩ | ⟨kvs, hk⟩
        · obtain ⟨_, _, _, _, o, _, _, e, ex, _⟩ := I.hok p _ hk
          exact ⟨o, e, ex⟩
        · obtain ⟨_, _, _, _, o, _, _, e, ex, _⟩ := I.hok p _ hk
          exact ⟨o, e, ex⟩
      obtain ⟨o, e, ex⟩ := z
      refine ⟨⟨o, e, ex.1⟩, fun a e2 => ?_⟩
      cases e2
      exact ⟨o, e, ex.2.1⟩
    · obtain ⟨o, _, _, _, e, ex, _⟩ := I.hok p _ hk
      refine ⟨⟨o, e, ex.1⟩, fun a e2 => ?_⟩
      cases e2
      exact ⟨o, e, ex.2.1⟩
  | _ => exact False.elim ty
def tBM0 (K : PySem.W.Frag) (T : String) (r : V → List V → Hp → VK → Prop) (to : TE) : TE := fun σ H Q => to σ H fun x H1 => tyV K T x H1 ∧ r x [] H1 Q
def tBM (K : PySem.W.Frag) (T : String) (r : V → List V → Hp → VK → Prop) (to : TE) (t : TA) : TE := fun σ H Q => to σ H fun x H1 => tyV K T x H1 ∧ t σ H1 fun xs H2 => r x xs H2 Q
variable {o e : Expr} {es : List Expr} {to : TE} {t : TA} {name : Str} {apos cpos : Pos} {T id : String} {r : V → List V → Hp → VK → Prop}
theorem pe_bm0 (pa : PlainAttrs T) (slot : Slot T name id) (hty : typeOf (.builtin id) = pure (.type "method_descriptor")) (hm : MtR X id r) (ho : PE X o to)
    (hbase : attributeBase o name X.env (eval o X.env) = eval o X.env := by rfl) (hline : (apos.endLine == cpos.line) = true := by rfl) : PE X (.Call (.Attribute o name apos) [] [] cpos) (tBM0 X.K T r to) := by
  intro pins s σ H Q I h
  refine wpAny_Call_method0_late hbase hline (thn (ho pins s σ H _ I h) fun v s1 ⟨x, H1, I1, r1, ty, q1⟩ => ?_)
  obtain ⟨h1, h2⟩ := tyV_is I1 r1 ty
  exact ⟨T, id, pa, slot, hty, h1, h2, Calls.callWith_builtin rfl (PySem.evalArgs_none (hm pins s1 σ H1 x [] v [] Q I1 r1 .nil q1))⟩
theorem pe_bm (pa : PlainAttrs T) (slot : Slot T name id) (hty : typeOf (.builtin id) = pure (.type "method_descriptor")) (hm : MtR X id r) (ho : PE X o to) (ha : PA X (e :: es) t)
    (hbase : attributeBase o name X.env (eval o X.env) = eval o X.env := by rfl)
    (hfew : ((backTo cpos (starEach (e :: es) X.env)).all (fun x => !x.1) && (backToKw cpos (keywordEach [] X.env)).all (fun x => x.1.isSome)
      && decide ((e :: es).length + ([] : List Keyword).length + (if ([] : List Keyword).isEmpty then 0 else 1) < 30)) = true := by rfl)
    (hline : (apos.endLine == cpos.line) = true := by rfl) (hs : starEach (e :: es) X.env = (false, eval e X.env) :: starEach es X.env := by rfl) (hplain : (backTo cpos (starEach es X.env)).any (·.1) = false := by rfl) :
    PE X (.Call (.Attribute o name apos) (e :: es) [] cpos) (tBM X.K T r to t) := by
  intro pins s σ H Q I h
  refine wpAny_Call_method_late hbase hfew hline rfl (thn (ho pins s σ H _ I h) fun v s1 ⟨x, H1, I1, r1, ty, q1⟩ => ?_)
  obtain ⟨h1, h2⟩ := tyV_is I1 r1 ty
  refine ⟨T, id, pa, slot, hty, h1, h2, ?_⟩
  have hA := ha cpos pins s1 σ H1 _ I1 q1
  rw [hs] at hA ⊢
  refine Calls.callWith_builtin (by show (false || (backTo cpos (starEach es X.env)).any (·.1)) = false; rw [hplain] <;> rfl) (Calls.evalArgs_plain ?_)
  exact thn hA fun us s2 ⟨vs, H2, I2, r2, q2⟩ => hm pins s2 σ H2 x vs v us Q I2 r1 r2 q2
/- xs.append(e), list.index on a module's tuple .. are MtR facts of 06m -/
end
end L2
namespace L2
open PySem PySem.Spec PyProof.Rows
def MtM (X : Cx) (id : String) (r : V → List V → Hp → VK → Prop) : Prop :=
  ∀ (pins : List (Addr × Obj)) (s : Shared) (σ : St) (H : Hp) (x : V) (xs : List V) (v : Value) (us : List Value) (Q : VK), Inv X pins σ H s → RelV x v → Vals xs us → r x xs H Q →
    wpAny (model X.prog X.w) X.A (call (.builtin id) (v :: us)) (EP X pins σ Q) X.xe s
theorem Vals.one : ∀ {x : V} {us : List Value}, Vals [x] us → ∃ u, us = [u] ∧ RelV x u
  | _, _, .cons r .nil => ⟨_, rfl, r⟩
theorem Vals.zero : ∀ {us : List Value}, Vals [] us → us = []
  | _, .nil => rfl
theorem Vals.eraseIdx : ∀ {xs : List V} {us : List Value} (i : Nat), Vals xs us → Vals (xs.eraseIdx i) (us.eraseIdx i)
  | _, _, _, .nil => .nil
  | _, _, 0, .cons _ t => t
  | _, _, i + 1, .cons r t => .cons r (Vals.eraseIdx i t)
theorem Vals.reverse {xs : List V} {us : List Value} (h : Vals xs us) : Vals xs.reverse us.reverse := by
  induction h with
  | nil => exact .nil
  | cons r t ih => rw [List.reverse_cons, List.reverse_cons]; exact Vals.append ih (.cons r .nil)
theorem Vals.rep {xs : List V} {us : List Value} (h : Vals xs us) : ∀ k : Nat, Vals (List.replicate k xs).flatten (List.replicate k us).flatten
  | 0 => .nil
  | k + 1 => by
    rw [List.replicate_succ, List.replicate_succ, List.flatten_cons, List.flatten_cons]
    exact Vals.append h (Vals.rep h k)
theorem len_erase {α : Type} : ∀ (l : List α) (i : Nat), (l.eraseIdx i).length ≤ l.length
  | [], _ => Nat.le_refl _
  | _ :: _, 0 => Nat.le_succ _
  | _ :: r, i + 1 => Nat.succ_le_succ (len_erase r i)
theorem foldl_rep (its : List Value) : ∀ (k : Nat) (acc : List Value),
    List.foldl (fun x1 x2 => x1 ++ x2) acc.toArray (List.replicate k its.toArray) = (acc ++ (List.replicate k its).flatten).toArray
  | 0, acc => by simp
  | k + 1, acc => by
    have e : acc.toArray ++ its.toArray = (acc ++ its).toArray := by simp
    have e2 : (acc ++ its) ++ (List.replicate k its).flatten = acc ++ (List.replicate (k + 1) its).flatten := by
      rw [List.replicate_succ, List.flatten_cons, List.append_assoc]
    rw [← e2, ← foldl_rep its k (acc ++ its), ← e, List.replicate_succ, List.foldl_cons]
section
variable {X : Cx} {pins : List (Addr × Obj)} {σ : St} {H : Hp} {s : Shared} {l b : Addr} {xs ys zs : List V}
theorem Inv.lset {its its' : List Value} {n : Nat} {f : Array Value → Array Value} {t' : Nat} (I : Inv X pins σ H s) (hH : H l = some (.lst xs))
    (e : s.heap.get? l = some { cls := .type "list", data := .seq its.toArray n }) (hf : f its.toArray = its'.toArray) (hv : Vals ys its') (hz : ys.length ≤ sizeLine) :
    Inv X pins σ (upd H l (.lst ys)) { s with heap := s.heap.update l (Obj.mapSeq f), toks := t' } := by
  have q := PySem.IsL.update e f
  rw [hf] at q
  refine I.write (x := l) (e := l) (by rw [hH]; exact trivial) (.inl rfl) (fun b' u hb hu => (Heap.get?_update_other s.heap (Obj.mapSeq f) (Ne.symm hb)).trans hu) ⟨_, q⟩ ?_
  exact ⟨hz, its', _, hv, q⟩
theorem Inv.lnew {its : List Value} {t' : Nat} (I : Inv X pins σ H s) (hv : Vals ys its) (hz : ys.length ≤ sizeLine) :
    Inv X pins σ (upd H s.heap.objs.size (.lst ys)) { s with heap := s.heap.push { cls := .type "list", data := .seq its.toArray }, toks := t' } :=
  I.laid (fun _ _ q => Heap.get?_push_of_some _ q) (Nat.le_refl _) ⟨hz, its, 0, hv, Heap.get?_push_size _ rfl⟩
theorem Inv.fresh (I : Inv X pins σ H s) : H s.heap.objs.size = none := I.hok.fresh (Nat.le_refl _)
theorem Inv.lstM (I : Inv X pins σ H s) (hH : H l = some (.lst xs)) : xs.length ≤ sizeLine ∧ ∃ (its : List Value) (n : Nat), Vals xs its ∧ xs.length = its.length ∧ s.heap.get? l = some { cls := .type "list", data := .seq its.toArray n } := by
  obtain ⟨z, its, n, r, e⟩ := I.hok l _ hH
  exact ⟨z, its, n, r, r.length, e⟩
theorem notLongL {n : Nat} (h : n ≤ sizeLine) : Builtin.List.listTooLong n = false := by
  unfold Builtin.List.listTooLong
  exact decide_eq_false (by omega)
end
section
variable {X : Cx}
def rAppend : V → List V → Hp → VK → Prop := fun x vs H Q => ∃ l xs y, x = .ref l ∧ vs = [y] ∧ H l = some (.lst xs) ∧ xs.length < sizeLine ∧ Q .non (upd H l (.lst (xs ++ [y])))
theorem mt_append : MtM X "list.append" rAppend := by
  intro pins s σ H x vs v us Q I rx rv h
  obtain ⟨l, xs, y, rfl, rfl, hH, hz, q⟩ := h
  cases rx
  obtain ⟨u, rfl, ru⟩ := rv.one
  obtain ⟨z, its, n, r, hl, e⟩ := I.lstM hH
  refine call_meets F.slot_list_append ⟨_, e, rfl⟩ F.entry_list_append (F.args_list_append_2 _ _) (PySem.list_append l its.toArray n u (by rw [List.size_toArray]; omega)) ⟨e, ?_⟩
  refine ⟨.non, _, I.lset (its' := its ++ [u]) hH e (by simp) (r.append (.cons ru .nil)) ?_, rfl, q⟩
  rw [List.length_append, List.length_singleton]
  omega
def rExtend : V → List V → Hp → VK → Prop := fun x vs H Q => ∃ l b xs zs, x = .ref l ∧ vs = [.ref b] ∧ H l = some (.lst xs) ∧ H b = some (.lst zs) ∧ xs.length + zs.length ≤ sizeLine ∧ Q .non (upd H l (.lst (xs ++ zs)))
theorem mt_extend : MtM X "list.extend" rExtend := by
  intro pins s σ H x vs v us Q I rx rv h
  obtain ⟨l, b, xs, zs, rfl, rfl, hH, hB, hz, q⟩ := h
  cases rx
  obtain ⟨u, rfl, ru⟩ := rv.one
  cases ru
  obtain ⟨z, its, n, r, hl, e⟩ := I.lstM hH
  obtain ⟨z2, its2, n2, r2, hl2, e2⟩ := I.lstM hB
  have hsz : its.toArray.size + its2.toArray.size ≤ sizeLine := by rw [List.size_toArray, List.size_toArray]; omega
  have hlong : ¬ (!its.toArray.isEmpty && Builtin.List.listTooLong (its.toArray.size + its2.toArray.size)) = true := by
    rw [notLongL hsz, Bool.and_false]
    exact Bool.false_ne_true
  refine call_meets F.slot_list_extend ⟨_, e, rfl⟩ F.entry_list_extend (F.args_list_extend_2 _ _)
    (AutoSeq1.list_extend_list_list_0 l its.toArray n b its2.toArray n2 hlong (by rw [List.size_toArray]; omega) (by omega)) ⟨e, e2, ?_⟩
  refine ⟨.non, _, I.lset (its' := its ++ its2) hH e (by simp) (r.append r2) ?_, rfl, q⟩
  rw [List.length_append]
  omega
def rPopAt : V → List V → Hp → VK → Prop := fun x vs H Q => ∃ l xs i k y, x = .ref l ∧ vs = [.int i] ∧ H l = some (.lst xs) ∧ -(2 ^ 63) ≤ i ∧ i < 2 ^ 63 ∧ seqIndex? i xs.length = some k ∧ xs[k]? = some y ∧ Q y (upd H l (.lst (xs.eraseIdx k)))
theorem mt_popAt : MtM X "list.pop" rPopAt := by
  intro pins s σ H x vs v us Q I rx rv h
  obtain ⟨l, xs, i, k, y, rfl, rfl, hH, h1, h2, hk, hy, q⟩ := h
  cases rx
  obtain ⟨u, rfl, ru⟩ := rv.one
  obtain ⟨t, rfl⟩ := ru
  obtain ⟨z, its, n, r, hl, e⟩ := I.lstM hH
  obtain ⟨w, hw, rw'⟩ := r.get hy
  refine call_meets F.slot_list_pop ⟨_, e, rfl⟩ F.entry_list_pop (F.args_list_pop_2 _ _)
    (MeetsSeq.list_pop_at l its.toArray n i t k w (fitsIndex_both h1 h2) (by rw [List.size_toArray, ← hl]; exact hk) (by rw [← Array.getElem?_toList]; exact hw) (by rw [List.size_toArray]; omega)) ⟨e, ?_⟩
  refine ⟨y, _, I.lset (its' := its.eraseIdx k) hH e ?_ (r.eraseIdx k) ?_, rw', q⟩
  · show its.toArray.eraseIdxIfInBounds k = (its.eraseIdx k).toArray
    rw [List.eraseIdxIfInBounds_toArray]
  · have := len_erase xs k
    omega
def rReverse : V → List V → Hp → VK → Prop := fun x vs H Q => ∃ l xs, x = .ref l ∧ vs = [] ∧ H l = some (.lst xs) ∧ Q .non (upd H l (.lst xs.reverse))
theorem mt_reverse : MtM X "list.reverse" rReverse := by
  intro pins s σ H x vs v us Q I rx rv h
  obtain ⟨l, xs, rfl, rfl, hH, q⟩ := h
  cases rx
  have hus := rv.zero
  subst hus
  obtain ⟨z, its, n, r, hl, e⟩ := I.lstM hH
  refine call_meets F.slot_list_reverse ⟨_, e, rfl⟩ F.entry_list_reverse (F.args_list_reverse_1 _) (AutoSeq1.list_reverse_list_0 l its.toArray n (by rw [List.size_toArray]; omega)) ⟨e, ?_⟩
  refine ⟨.non, _, I.lset (its' := its.reverse) hH e (by simp) r.reverse ?_, rfl, q⟩
  rw [List.length_reverse]
  omega
def rCat : R2 := fun x y H Q => ∃ l b xs zs, x = .ref l ∧ y = .ref b ∧ H l = some (.lst xs) ∧ H b = some (.lst zs) ∧ xs.length + zs.length ≤ sizeLine ∧ ∀ p, H p = none → Q (.ref p) (upd H p (.lst (xs ++ zs)))
theorem op_cat : OpR X (binaryOp .Add) rCat := by
  intro pins s σ H x y v u Q I rx ry h
  obtain ⟨l, b, xs, zs, rfl, rfl, hH, hB, hz, q⟩ := h
  cases rx
  cases ry
  obtain ⟨z, its, n, r, hl, e⟩ := I.lstM hH
  obtain ⟨z2, its2, n2, r2, hl2, e2⟩ := I.lstM hB
  refine PySem.P.add_list e e2 ?_ (by rw [List.size_toArray, List.size_toArray]; omega)
  have ea : its.toArray ++ its2.toArray = (its ++ its2).toArray := by simp
  rw [ea]
  exact ⟨.ref _, _, I.lnew (t' := s.toks) (r.append r2) (by rw [List.length_append]; omega), rfl, q _ I.fresh⟩
def rRep : R2 := fun x y H Q => ∃ l k xs, x = .ref l ∧ y = .int k ∧ H l = some (.lst xs) ∧ -(2 ^ 63) ≤ k ∧ k < 2 ^ 63 ∧ xs.length * k.toNat ≤ sizeLine ∧
  ∀ p, H p = none → Q (.ref p) (upd H p (.lst (List.replicate k.toNat xs).flatten))
theorem len_rep {α : Type} (xs : List α) (k : Nat) : (List.replicate k xs).flatten.length = k * xs.length := by
  induction k with
  | zero => simp
  | succ k ih => rw [List.replicate_succ, List.flatten_cons, List.length_append, ih, Nat.succ_mul, Nat.add_comm]
theorem op_rep : OpR X (binaryOp .Mult) rRep := by
  intro pins s σ H x y v u Q I rx ry h
  obtain ⟨l, k, xs, rfl, rfl, hH, h1, h2, hz, q⟩ := h
  cases rx
  obtain ⟨t, rfl⟩ := ry
  obtain ⟨z, its, n, r, hl, e⟩ := I.lstM hH
  have hlen : its.toArray.size * k.toNat ≤ sizeLine := by rw [List.size_toArray, ← hl]; exact hz
  have hcap : ¬ its.toArray.size * k.toNat > (2 ^ 63 - 1) / 8 := by
    have : (sizeLine : Nat) ≤ (2 ^ 63 - 1) / 8 := by decide
    omega
  have hfit : ¬ (!Builtin.List.listFitsIndex k) = true := by
    rw [fitsIndex_both h1 h2]
    exact Bool.false_ne_true
  have hlong : ¬ Builtin.List.listTooLong (its.toArray.size * k.toNat) = true := by
    rw [notLongL hlen]
    exact Bool.false_ne_true
  have hnew : List.foldl (fun x1 x2 => x1 ++ x2) #[] (List.replicate (if its.toArray.isEmpty = true then 0 else k.toNat) its.toArray) = (List.replicate k.toNat its).flatten.toArray := by
    have f0 : ∀ m : Nat, List.foldl (fun x1 x2 => x1 ++ x2) #[] (List.replicate m its.toArray) = (List.replicate m its).flatten.toArray := fun m => by
      have := foldl_rep its m []
      rw [List.nil_append] at this
      exact this
    rw [f0]
    cases its with
    | nil => simp
    | cons a r' => rw [if_neg (by simp)]
  refine wpAny_binaryOp_repeat_ref (T := "list") (U := "int") (by decide) ⟨_, e, rfl⟩ (fun s' => typeIs_int s' k t) noFill_list_mul F.fills_int_mul F.slot_int_rmul repeat_list F.slot_int_index.lookup
    (call_meets F.slot_int_rmul (typeIs_int s k t) F.entry_int_rmul (F.args_int_rmul_2 _ _) (int___rmul___int_list k t l its.toArray n)
      ⟨e, rfl, ⟨_, e, rfl⟩, call_meets F.slot_list_mul ⟨_, e, rfl⟩ F.entry_list_mul (F.args_list_mul_2 _ _) (AutoListH.list___mul___list_int_3 l its.toArray n k t hfit hcap hlong) ⟨e, ?_⟩⟩)
  rw [hnew]
  exact ⟨.ref _, _, I.lnew (t' := s.toks) (r.rep k.toNat) (by rw [len_rep, Nat.mul_comm]; exact hz), rfl, q _ I.fresh⟩
end
section
variable {prog : Program} {w : World} {A : Around} {E : Value → Shared → Prop} {s : Shared}
set_option maxRecDepth 100000 in
end
section
variable {X : Cx}
end
end L2
namespace Att
open PySem PySem.W PySem.Calls PyProof.Rows
theorem ints_of_wellAll {P : Params} {h : Heap} : ∀ (ns : List Int) (vs : List Value), WellAll P h vs (ns.map WData.int) → IntsAre vs ns := by
  intro ns
  induction ns with
  | nil =>
    intro vs w
    rw [List.map_nil] at w
    cases w
    exact .nil
  | cons n ns ih =>
    intro vs w
    rw [List.map_cons] at w
    cases w with
    | cons a b =>
      cases a
      exact .cons _ _ (ih _ b)
theorem script_of {l : OpenLaw} {n : Nat} (hn : l.most = some n) {P : Params} {h : Heap} {args : List WData} {vals : List Value}
    (hpre : l.row.toRowW.claim.pre args = true) (hwl : WellAll P h vals args) :
    ∃ a vs ns, vals = [Value.ref a] ∧ args = [WData.list (ns.map WData.int)] ∧ h.get? a = some { cls := .type "list", data := .seq vs.toArray } ∧ IntsAre vs ns ∧ ns.length ≤ n := by
  have hsh : WShape.hasAll [] args [.list .int] = true := (pre_splitW hpre).1
  have hc : l.pre.holds [] { args := args } = true := (pre_splitW hpre).2
  obtain ⟨d, r, rfl, h1, h2⟩ := hasAllW_cons hsh
  obtain rfl := hasAllW_nil h2
  obtain ⟨xs, rfl, h3⟩ := hasW_list h1
  obtain ⟨ns, rfl⟩ := items_int h3
  have hlen : ns.length ≤ n := by
    unfold OpenLaw.pre at hc
    have h4 : (WTm.not (.lt (.lit (.int (n : Int))) (.len (.arg 0)))).holds [] { args := [.list (ns.map .int)] } = true := by
      have h4 := (holds_andW hc).1
      rw [hn] at h4
      exact h4
    have h5 := condW_of h4 (w_not (w_lt w_lit (w_len_list (w_arg rfl))))
    rw [List.length_map] at h5
    refine Nat.le_of_not_lt fun q => ?_
    have q' : (n : Int) < ((ns.length : Nat) : Int) := by omega
    first
      | (rw [decide_eq_true q'] at h5; exact absurd h5 (by decide))
      | (simp at h5; omega)
  cases hwl with
  | cons w1 w2 =>
    cases w2
    cases w1 with
    | list ho hall => exact ⟨_, _, ns, rfl, rfl, ho, ints_of_wellAll ns _ hall, hlen⟩
theorem post_true (l : OpenLaw) (args : List WData) : l.row.toRowW.claim.post args (.bool true) args = true :=
  postW_of (r := l.row.toRowW) (X := (true == true))
    (show WShape.has [] (.bool true) .bool = true by first | rfl | decide | simp [WShape.has, WShape.arms, WShape.armsAll])
    (show (WTm.eq .res (.lit (.bool true))).value [] { args := args, res := some (.bool true), after := args } = some (.bool (true == true)) from w_eq_bool (w_res rfl) w_lit) rfl
theorem attach_call {l : OpenLaw} {n : Nat} {q : Program} {loose : List Str} {XP : (Str → Option Value) → Heap → Prop} {YP : World → Heap → Prop} {d : DefRec}
    (hn : l.most = some n) (hdf : d.params.defaults = [])
    (call : ∀ (w : World) (s₀ s₁ : Shared) (mg mb : Str → Option Value) (fa : Addr) (o : Obj) (pm cd doc : Value) (a : Addr) (vs : List Value) (ns : List Int),
      Ground q loose [] XP w s₀ mg mb s₁.heap → YP w s₁.heap →
      s₁.heap.get? fa = some o → o.data = .func (docDef d.name d.params d.body d.scope pm cd doc) → s₁.heap.CodeRec cd d.name → mg d.name = some (.ref fa) →
      s₁.heap.get? a = some { cls := .type "list", data := .seq vs.toArray } → IntsAre vs ns → ns.length ≤ n → s₁.gens = #[] →
      codeAny (model l.prog w) callerA (.call (.ref fa) ⟨[.ref a], []⟩) (fun r s' => r = .ok (.ret (.bool true)) ∧ OldK s₁.heap s'.heap ∧ s'.os = s₁.os ∧ AllBare s'.gens) s₁) :
    WalkO q loose XP YP l.row.toRowW d [] (fun f vs => PySem.call f vs) := by
  intro w s₀ s₁ mg mb G Y fa o pm cd doc dV kV ho hd hcd hD hmg hg args vals as hpre hlay hrd hwl hlo
  obtain rfl : dV = .none := Dflts.none hD hdf
  obtain rfl : kV = .none := Dflts.noKw hD
  obtain ⟨a, vs, ns, rfl, rfl, hobj, hints, hlen⟩ := script_of hn hpre hwl
  refine enter_call (codeAny_mono (call w s₀ s₁ mg mb fa o pm cd doc a vs ns G Y ho (fd_plain hd) hcd hmg hobj hints hlen hg) fun r s' hq => ?_)
  obtain ⟨rfl, h2, h3, h4⟩ := hq
  exact ⟨.inl ⟨.bool true, .bool true, [], rfl, fun _ => rfl, .bool true, post_true l _, fun _ => ⟨List.Pairwise.nil, fun _ hm => (nomatch hm)⟩⟩, h2, h3, h4⟩
section
variable {prog : Program} {w : World} {A : Around} {E : Value → Shared → Prop} {s : Shared} {K : Frag}
def ledger (h : Heap) (L d : Addr) : List (Addr × Obj) := (List.range h.objs.size).filterMap fun a => if a = L ∨ a = d then none else (h.get? a).map fun o => (a, o)
end
end Att
namespace L2
open PySem PySem.Spec PyProof.Rows
theorem vals_ints : ∀ {vs : List Value} {ns : List Int}, IntsAre vs ns → Vals (ns.map V.int) vs
  | _, _, .nil => .nil
  | _, _, .cons n t h => .cons ⟨t, rfl⟩ (vals_ints h)
def Only (H : Hp) : Prop := ∀ b, H b = none ∨ ∃ o xs, H b = some (.frz o (.lst xs))
theorem law_call {P : Program} {w : World} {K : PySem.W.Frag} {mg mb : Str → Option Value} {CX : CXT} {k : Nat} {fa a : Addr} {fd : FuncData} {x : Str} {sp : Sp} {s₁ : Shared} {vs : List Value} {ns : List Int}
    (KX : K.In s₁.heap) (hns : s₁.heap.Ns mainGlobals mg) (hb : s₁.heap.Ns builtinsNs mb) (hbb : ∀ x : Str, x ≠ "__name__" → mb x = bootBuiltins x) (hlim : s₁.heap.NoLimit) (hg : s₁.gens = #[])
    (ha : s₁.heap.get? a = some { cls := .type "list", data := .seq vs.toArray }) (hi : IntsAre vs ns) (hl : ns.length ≤ sizeLine) (hr : Room k callerA)
    (F : ∀ base : Heap, K.In base → base.Ns mainGlobals mg → FnOk P w K mg base CX k fa fd [x] sp) (hbind : ∀ (s : Shared) (u : Value), BindsTo s fd ⟨[u], []⟩ [(x, u)])
    (hsp : ∀ H : Hp, Only H → SqL K H a (ns.map V.int) → sp [.ref a] H (fun v _ => v = .bl true) fun _ _ _ => False)
    (hCX : ∀ H e s', CX [] H s₁ (fun _ _ _ => False) e s' → False) :
    codeAny (model P w) callerA (.call (.ref fa) ⟨[.ref a], []⟩) (fun r s' => r = .ok (.ret (.bool true)) ∧ OldK s₁.heap s'.heap ∧ s'.os = s₁.os ∧ AllBare s'.gens) s₁ := by
  have rv := vals_ints hi
  have lenV := hi.length
  -- from an abstract heap in which nothing but the script may be tracked
  have core : ∀ H : Hp, Only H → SqL K H a (ns.map V.int) → HOk P w H s₁.heap → (∀ b, H b ≠ none → b = a) → (H a ≠ none → K.lookup a = none) →
      codeAny (model P w) callerA (.call (.ref fa) ⟨[.ref a], []⟩) (fun r s' => r = .ok (.ret (.bool true)) ∧ OldK s₁.heap s'.heap ∧ s'.os = s₁.os ∧ AllBare s'.gens) s₁ := by
    intro H hO hS hok hA hK
    have base_of : ∀ {b : Addr} {o : Obj}, s₁.heap.get? b = some o → H b = none → (hidT s₁.heap H).get? b = some o := fun e n => hidT_get e n
    have noA : ∀ {b : Addr} {o : Obj} {es : Array DictEntry} {ep : Nat}, s₁.heap.get? b = some o → o.data = .dict es ep → H b = none := fun {b o es ep} e d => by
      cases q : H b with
      | none => rfl
      | some u =>
        have e' : b = a := hA b (by rw [q]; simp)
        subst e'
        rw [ha] at e; cases e
        have d' : Data.seq vs.toArray _ = Data.dict es ep := d
        cases d'
    have nsK : ∀ {b : Addr} {m : Str → Option Value}, s₁.heap.Ns b m → (hidT s₁.heap H).Ns b m := fun {b m} ⟨o, es, ep, e, d, r⟩ => ⟨o, es, ep, base_of e (noA e d), d, r⟩
    have hKb : K.In (hidT s₁.heap H) := fun b o e => base_of (KX b o e) (by
      cases q : H b with
      | none => rfl
      | some u =>
        have e' : b = a := hA b (by rw [q]; simp)
        subst e'
        rw [hK (by rw [q]; simp)] at e; cases e)
    have hM : Mod K mg (hidT s₁.heap H) := ⟨hKb, nsK hns, ⟨mb, nsK hb, hbb⟩, let ⟨mc, h1, h2⟩ := hlim; ⟨mc, nsK h1, h2⟩⟩
    have e0 : Env0 P w K mg (hidT s₁.heap H) callerA [] s₁ H := ⟨rfl, hM, fun b o e => of_hidT e, Nat.le_of_eq (hidT_size _ _), trivial, fun b hb => absurd (show b ∈ ([] : List Addr) from hb) (by simp), hok, .of_eq hg⟩
    refine codeAny_mono ((F _ hKb (nsK hns)).run callerA [] s₁ H ⟨[.ref a], []⟩ [.ref a] [.ref a] _ _ hr e0 (hbind s₁ (.ref a)) (.cons rfl .nil) (hsp H hO hS)) fun r s' h => ?_
    cases r with
    | error e => exact (hCX H e s' h).elim
    | ok fl =>
      cases fl with
      | next => exact False.elim h
      | brk => exact False.elim h
      | cont => exact False.elim h
      | ret u =>
        obtain ⟨v, H', os, bare, un, hok', r', q⟩ := h
        have q' : v = .bl true := q
        subst q'
        obtain rfl : u = Value.bool true := r'
        refine ⟨rfl, OldK.of_keep fun b o e => ?_, os, bare⟩
        cases q : H b with
        | none => exact un.keep b o e q (by intro z; exact absurd (show b ∈ ([] : List Addr) from z) (by simp)) (by simp)
        | some u =>
          rcases hO b with z | ⟨ob, xs, z⟩
          · rw [q] at z; cases z
          · have z2 := un.frzs b ob _ z
            obtain ⟨e1, _⟩ := hok b _ z
            obtain ⟨e2, _⟩ := hok' b _ z2
            rw [e] at e1; cases e1
            exact e2
  cases hk : K.lookup a with
  | some o =>
    -- the script is one of the module's own objects
    have e := KX a o hk
    rw [ha] at e
    cases e
    refine core (fun _ => none) (fun _ => .inl rfl) (.inr ⟨_, vs.toArray, _, hk, rfl, rfl, rfl, by rw [List.size_toArray, lenV]; exact hl, by simpa using rv⟩) (fun b u z => by have z' : (none : Option HO) = some u := z; cases z') (fun b z => absurd rfl z) fun z => absurd rfl z
  | none =>
    refine core (fun b => if b = a then some (.frz { cls := .type "list", data := .seq vs.toArray } (.lst (ns.map V.int))) else none) (fun b => ?_) (.inl (.inr ⟨{ cls := .type "list", data := .seq vs.toArray }, if_pos rfl⟩)) (fun b u z => ?_) (fun b z => ?_) fun _ => hk
    · by_cases hb : b = a
      · exact .inr ⟨_, _, if_pos hb⟩
      · exact .inl (if_neg hb)
    · by_cases hb : b = a
      · have z' := (if_pos hb).symm.trans z
        cases z'
        subst hb
        exact ⟨ha, by rw [List.length_map]; exact hl, vs, _, rv, ha⟩
      · have z' := (if_neg hb).symm.trans z
        cases z'
    · by_cases hb : b = a
      · exact hb
      · exact absurd (if_neg hb) z
end L2
namespace L2
open PySem PySem.Spec PyProof.Rows
abbrev KOf {K : PySem.W.Frag} {h : Heap} (_ : K.In h) : PySem.W.Frag := K
theorem walk_of {l : PySem.W.OpenLaw} {n k : Nat} {q : Program} {loose : List Str} {XP : (Str → Option Value) → Heap → Prop} {YP : World → Heap → Prop} {d : DefRec} {K : Params → PySem.W.Frag} {CX : World → CXT} {sp : World → Sp} {x : Str}
    (hn : l.most = some n) (hn2 : n ≤ sizeLine) (hdf : d.params.defaults = []) (hr : Room k callerA)
    (hY : ∀ (w : World) (h : Heap), YP w h → (K w.params).In h)
    (F : ∀ (w : World) (mg : Str → Option Value) (fa : Addr) (h : Heap), (K w.params).In h → h.Ns mainGlobals mg → mg d.name = some (.ref fa) →
      ∃ fd : FuncData, (∀ (s : Shared) (u : Value), BindsTo s fd ⟨[u], []⟩ [(x, u)]) ∧
        ∀ base : Heap, (K w.params).In base → base.Ns mainGlobals mg → FnOk l.prog w (K w.params) mg base (CX w) k fa fd [x] (sp w))
    (hsp : ∀ (w : World) (H : Hp) (a : Addr) (ns : List Int), ns.length ≤ n → Only H → SqL (K w.params) H a (ns.map V.int) → sp w [.ref a] H (fun v _ => v = .bl true) fun _ _ _ => False)
    (hCX : ∀ (w : World) (H : Hp) (s : Shared) (e : Value) (s' : Shared), CX w [] H s (fun _ _ _ => False) e s' → False) :
    PySem.W.WalkO q loose XP YP l.row.toRowW d [] (fun f vs => PySem.call f vs) := by
  refine Att.attach_call hn hdf fun w s₀ s₁ mg mb fa o pm cd doc a vs ns G Y ho hd hcd hmg hobj hints hlen hg => ?_
  have KX := hY w _ Y
  obtain ⟨fd, hb, hF⟩ := F w mg fa _ KX G.T.g hmg
  exact law_call KX G.T.g G.T.b G.T.builtins G.T.nolimit hg hobj hints (Nat.le_trans hlen hn2) hr hF hb (fun H hO hS => hsp w H a ns hlen hO hS) fun H e s' => hCX w H s₁ e s'
end L2
/- THE LAST THEOREM (shape; LID, My.* are yours):
   My.Adr: a structure of the addresses that your layer names (classes, functions); My.Txt K t: a structure (Prop) of the equations over K;
   My.txt_mk : {K} {implicit addresses ..} (e1 : nsIn K mainGlobals "law" = some (some (.ref f))) (e2 : K.lookup f = some ⟨oc, od, .func (fnOf "law" "law" params body scope dV kV doc pm an cdv ct), sl⟩) (e3 : codeIn K cdv "law" = true) .. : ∃ t, My.Txt K t
set_option maxRecDepth 100000 in
set_option maxHeartbeats 0 in
theorem PySem.Challenge.cw_LID_holds : PySem.Challenge.rw_LID.Holds := by
  w_on; o_law; k_head; (case hw => w_witness2)
  k_fill
  refine L2.walk_of (l := PySem.Challenge.rw_LID) (n := 63) (k := 40) (x := "script") (CX := fun w => ..) (sp := fun _ => My.sp_law) rfl (by decide) rfl ⟨rfl, by decide, by decide⟩ (fun w h Y => PySem.W.kIn_of Y) ?F ?S ?C
  case F =>
    intro w mg fa h KX G hmg
    have T : ∃ t, My.Txt (L2.KOf KX) t := by
      dsimp only [L2.KOf]                          -- K must stand as «<heap const> w.params» for k_is
      refine' My.txt_mk ?e1 ?e2 ?e3 ..
      (case e1 => PySem.W.k_is)                    -- in the order: a name -> its address -> its object -> its parts
      (case e2 => PySem.W.k_is)
      ..
    obtain ⟨t, T⟩ := T
    have e0 := hmg.symm.trans (PySem.W.mg_of KX G T.law)
    cases e0                                       -- fa is the law's own address
    exact ⟨_, fun s u => .of_eq rfl, fun base kb nb => My.law_fn T kb nb⟩     -- if «.of_eq rfl» comes too early: refine' ⟨_, ?b, fun base kb nb => My.law_fn T kb nb⟩; exact fun s u => .of_eq rfl
  case S => exact fun w H a ns hl hO hS => ..
  case C => exact ..
(the tactic k_is has no namespace: write k_is) -/
namespace L2
open PySem PySem.Spec PyProof.Rows
def inClass (s : Stmt) (j : Nat) : Stmt := match s with
  | .ClassDef _ _ _ body _ _ _ _ _ _ _ => body.getD j (.Pass ⟨0, 0, 0, 0⟩)
  | _ => .Pass ⟨0, 0, 0, 0⟩
def defArgs (s : Stmt) : Arguments := match s with
  | .FunctionDef _ a _ _ _ _ _ _ _ _ => a
  | _ => { posonlyargs := [], args := [], vararg := none, kwonlyargs := [], kw_defaults := [], kwarg := none, defaults := [] }
def defBody (s : Stmt) : List Stmt := match s with
  | .FunctionDef _ _ b _ _ _ _ _ _ _ => b
  | _ => []
def defScope (s : Stmt) : Scope := match s with
  | .FunctionDef _ _ _ _ _ _ sc _ _ _ => sc
  | _ => { kind := .function, names := [], isGenerator := false, isCoroutine := false }
abbrev CX0 : CXT := fun _ _ _ _ _ _ => False
abbrev E0 : XK := fun _ _ _ => False
theorem pass0 {X : Cx} : Passes CX0 X E0 := fun _ _ _ _ _ _ _ h => h.elim
structure Fun (K : PySem.W.Frag) (x qual : Str) (st : Stmt) (f : Addr) (fd : FuncData) : Prop where
  ex : ∃ (oc : Value) (od : Option Addr) (kV doc pm : Value) (an : Option Addr) (cdv ct : Value) (osl : Array (Option Value)),
    fd = PySem.W.fnOf x qual (defArgs st) (defBody st) (defScope st) .none kV doc pm an cdv ct ∧ K.lookup f = some ⟨oc, od, .func fd, osl⟩ ∧ PySem.W.codeIn K cdv qual = true
  kp : PySem.W.keepIn K (.ref f) = true
section
variable {P : Program} {w : World} {K : PySem.W.Frag} {mg : Str → Option Value} {base : Heap}
theorem Fun.ok {x qual : Str} {st : Stmt} {f : Addr} {fd : FuncData} {N ps : List Str} {k : Nat} {sp : Sp} (F : Fun K x qual st f fd) (S : FnScope N ps (defScope st)) (len : ∀ vs H Q E, sp vs H Q E → vs.length = ps.length)
    (hbody : ∀ (cdv : Value) (A : Around) (outer : List Env) (s : Shared) (H : Hp) (vs : List V) (Q : VK) (E : XK), Room k (A.deeper (envOfC qual (defScope st) s.heap.objs.size f cdv)) → sp vs H Q E →
      ∃ t, PSs (cxOf CX0 P w K mg base N qual (defScope st) f cdv A outer s H E).nox (defBody st) t ∧ t { nx := fun _ H' => Q .non H', rt := Q } (start N vs) H) : FnOk P w K mg base CX0 (k + 1) f fd ps sp := by
  obtain ⟨oc, od, kV, doc, pm, an, cdv, ct, osl, rfl, lk, hcd⟩ := F.ex
  refine fn_of lk hcd S len fun A outer s H vs Q E hr hsp => ?_
  obtain ⟨t, h, q⟩ := hbody cdv A outer s H vs Q E hr hsp
  exact ⟨t, h.nox, q⟩
theorem Fun.binds {x qual : Str} {st : Stmt} {f : Addr} {fd : FuncData} {ps : List Str} (F : Fun K x qual st f fd)
    (h : ∀ (kV doc pm : Value) (an : Option Addr) (cdv ct : Value) (us : List Value), us.length = ps.length → bindArgs (PySem.W.fnOf x qual (defArgs st) (defBody st) (defScope st) .none kV doc pm an cdv ct) ⟨us, []⟩ = pure (ps.zip us)) : Binds K fd ps [] := by
  obtain ⟨oc, od, kV, doc, pm, an, cdv, ct, osl, rfl, lk, hcd⟩ := F.ex
  exact .all (h kV doc pm an cdv ct)
theorem fun_mk {x qual : Str} {st : Stmt} {f : Addr} {oc : Value} {od an : Option Addr} {osl : Array (Option Value)} {kV doc pm cdv ct : Value} (l : K.lookup f = some ⟨oc, od, .func (PySem.W.fnOf x qual (defArgs st) (defBody st) (defScope st) .none kV doc pm an cdv ct), osl⟩)
    (c : PySem.W.codeIn K cdv qual = true) (k : PySem.W.keepIn K (.ref f) = true) : Fun K x qual st f (PySem.W.fnOf x qual (defArgs st) (defBody st) (defScope st) .none kV doc pm an cdv ct) := ⟨⟨oc, od, kV, doc, pm, an, cdv, ct, osl, rfl, l, c⟩, k⟩
end
theorem small1000 {n : Nat} (h : n ≤ 1000) : n < sizeLine := Nat.lt_of_le_of_lt h (by decide)
section
variable {X : Cx}
theorem pv (i : Nat) {x : Str} {pos : Pos} (hN : X.N[i]? = some x := by rfl) (hv : Vis X.env.scope x := by first | exact Or.inl rfl | exact Or.inr (Or.inl rfl) | exact Or.inr (Or.inr rfl)) (hd : (x == ("__debug__" : Str)) = false := by decide)
    (hcd : (x == ("__classdict__" : Str)) = false := by decide) : PE X (.Name x pos) (tVar i) := pe_var hN hv hd hcd
end
theorem ite2 {c A B : Prop} [Decidable c] (h1 : c → A) (h2 : ¬ c → B) : if c then A else B := by
  by_cases h : c
  · rw [if_pos h]
    exact h1 h
  · rw [if_neg h]
    exact h2 h
def Same (H H' : Hp) : Prop := ∀ b o, H b = some o → H' b = some o
theorem Same.refl (H : Hp) : Same H H := fun _ _ h => h
theorem Same.trans {H H1 H2 : Hp} (a : Same H H1) (b : Same H1 H2) : Same H H2 := fun c o h => b c o (a c o h)
theorem Same.free {H H' : Hp} (e : Same H H') {l : Addr} (h : H' l = Option.none) : H l = Option.none := by
  cases q : H l with
  | none => rfl
  | some o =>
    rw [e l o q] at h
    cases h
theorem Same.seq {K : PySem.W.Frag} {H H' : Hp} {a : Addr} {xs : List V} (e : Same H H') (h : SqL K H a xs) : SqL K H' a xs := by
  rcases h with (h | ⟨o, h⟩) | h
  · exact .inl (.inl (e _ _ h))
  · exact .inl (.inr ⟨o, e _ _ h⟩)
  · exact .inr h
end L2
set_option Elab.async false
set_option linter.all false
set_option maxRecDepth 100000
set_option maxHeartbeats 4000000
set_option Elab.async false
set_option linter.all false
set_option maxRecDepth 100000
namespace L2
open PySem PySem.Spec PyProof.Rows
section
variable {κ : Type} [DecidableEq κ]
end
section
variable {P : Program} {w : World} {H : Hp} {h : Heap} {a : Addr}
end
section
variable {X : Cx} {pins : List (Addr × Obj)} {σ : St} {H : Hp} {s : Shared} {a : Addr} {y v : V} {u r : Value} {o : Option V} {A : Around} {E : Value → Shared → Prop}
theorem Inv.big (I : Inv X pins σ H s) : sysModules < s.heap.objs.size := by
  have h : mainGlobals < s.heap.objs.size := (I.mod.glob.keeps I.bk).lt
  exact Nat.lt_trans (by decide) h
end
section
variable {X : Cx} {pins : List (Addr × Obj)} {σ : St} {H : Hp} {s : Shared} {a : Addr} {kvs : List (Key × V)} {k : Key} {u : Value} {A : Around} {E : Value → Shared → Prop}
end
section
variable {X : Cx} {o i e value : Expr} {pos pos' tpos : Pos} {td ty tv : TE}
end
theorem dk_empty {P : Program} {w : World} {H : Hp} (h : Heap) (hb : sysModules < h.objs.size) : ObjOk P w H (h.push { cls := .type "dict", data := .dict #[] }) h.objs.size (.dK []) :=
  ⟨Nat.zero_le _, beq_eq_false_iff_ne.mpr (Ne.symm (Nat.ne_of_lt hb)), [], .nil, Heap.DictOf.new h⟩
def tDNewK : TE := fun _ H Q => ∀ p, H p = none → Q (.ref p) (upd H p (.dK []))
section
variable {X : Cx} {pos : Pos}
theorem pe_dnewK : PE X (.Dict [] [] pos) tDNewK := fun pins s σ H Q I h =>
  wpAny_Dict_empty ⟨.ref s.heap.objs.size, _, I.laid (a := s.heap.objs.size) (o := .dK []) (t' := s.toks) (fun _ _ q => Heap.get?_push_of_some _ q) (Nat.le_refl _) (dk_empty s.heap I.big), rfl, h _ (I.hok.fresh (Nat.le_refl _))⟩
end
structure M2 (X : Cx) (o : Expr) (m : Str) (apos : Pos) (e f : Expr) (cpos : Pos) : Prop where
  base : attributeBase o m X.env (eval o X.env) = eval o X.env
  few : ((backTo cpos (starEach [e, f] X.env)).all (fun x => !x.1) && (backToKw cpos (keywordEach [] X.env)).all (fun x => x.1.isSome)
    && decide (([e, f] : List Expr).length + ([] : List Keyword).length + (if ([] : List Keyword).isEmpty then 0 else 1) < 30)) = true
  line : (apos.endLine == cpos.line) = true
  trees : backTo cpos (starEach [e, f] X.env) = [(false, eval e X.env), (false, eval f X.env)]
section
variable {X : Cx} {pins : List (Addr × Obj)} {σ : St} {H : Hp} {s : Shared} {a : Addr} {y d : V} {u r : Value} {o : Option V} {A : Around} {E : Value → Shared → Prop}
end
section
variable {X : Cx} {o e f : Expr} {apos cpos : Pos} {td ty tx : TE}
end
section
variable {X : Cx} {pins : List (Addr × Obj)} {σ : St} {H : Hp} {s : Shared} {a : Addr} {kvs : List (Key × V)} {A : Around} {E : Value → Shared → Prop}
end
section
variable {X : Cx} {pins : List (Addr × Obj)} {σ : St} {H : Hp} {s : Shared} {a : Addr} {y : V} {u : Value} {A : Around} {E : Value → Shared → Prop}
end
end L2
namespace L2
open PySem PySem.Spec PyProof.Rows
section
variable {κ : Type} [DecidableEq κ]
end
end L2
set_option Elab.async false
set_option linter.all false
set_option maxRecDepth 100000
set_option maxHeartbeats 4000000
namespace L2
open PySem PySem.Spec PyProof.Rows
section
variable {X : Cx}
def CMulB (i j : Int) : Prop := i.natAbs < 2 ^ 256 ∧ j.natAbs < 2 ^ 256
theorem bits256 {i : Int} (h : i.natAbs < 2 ^ 256) : Builtin.Int.intBits i ≤ 2 ^ 20 := Nat.le_trans (intBits_le h) (by decide)
theorem op_mulB : OpR X (binaryOp .Mult) (rI CMulB fun i j => .int (i * j)) := opI fun _ _ _ _ _ _ _ hc q => mul_int q (IntMulOk.of_bits (bits256 hc.1) (bits256 hc.2))
theorem call_isi : CallR X (.builtin "isinstance") (fun xs H Q => ∃ x n ty b, xs = [x, .ty n] ∧ TyOf X.K H x ty ∧ PySem.W.kitOne X.K ty (.type n) = some b ∧ Q (.bl b) H) := by
  intro pins s σ H xs us Q I r h
  obtain ⟨x, n, ty, b, rfl, hty, hk, q⟩ := h
  obtain ⟨u, w', rfl, rx, rc⟩ := vals2 r
  cases (show w' = Value.type n from rc)
  exact isinst_ok I rx hty hk (fun tk => ⟨.bl b, H, I.tok _, rfl, q⟩)
theorem kitOne_ty (K : PySem.W.Frag) (A B : String) (r : Bool)
    (h : (if (Value.type A == Value.type B) = true then some true else if PySem.W.kitMeta B = true then (fastBuiltinMro A).map (·.contains (.type B)) else none) = some r) : PySem.W.kitOne K (.type A) (.type B) = some r := h
mutual
inductive DatV (K : PySem.W.Frag) (H : Hp) : V → PyData → Prop
  | non : DatV K H .non .none
  | bl (b : Bool) : DatV K H (.bl b) (.bool b)
  | int (i : Int) : DatV K H (.int i) (.int i)
  | str (x : Str) : DatV K H (.str x) (.str x)
  | lst {a : Addr} {xs : List V} {ds : List PyData} (h : SqL K H a xs) (r : DatVs K H xs ds) : DatV K H (.ref a) (.list ds)
  | tup {a : Addr} {xs : List V} {ds : List PyData} (h : SqT K H a xs) (r : DatVs K H xs ds) : DatV K H (.ref a) (.tuple ds)
inductive DatVs (K : PySem.W.Frag) (H : Hp) : List V → List PyData → Prop
  | nil : DatVs K H [] []
  | cons {x : V} {d : PyData} {xs : List V} {ds : List PyData} (h : DatV K H x d) (t : DatVs K H xs ds) : DatVs K H (x :: xs) (d :: ds)
end
mutual
theorem DatV.reads {pins : List (Addr × Obj)} {σ : St} {H : Hp} {s : Shared} (I : Inv X pins σ H s) : ∀ {x : V} {d : PyData} {u : Value}, DatV X.K H x d → RelV x u → ∃ as, Reads s.heap u d as
  | _, _, _, .non, r => by cases (show _ = Value.none from r); exact ⟨_, .none⟩
  | _, _, _, .bl b, r => by cases (show _ = Value.bool b from r); exact ⟨_, .bool b⟩
  | _, _, _, .int i, r => by obtain ⟨t, rfl⟩ := r; exact ⟨_, .int i t⟩
  | _, _, _, .str x, r => by obtain ⟨t, rfl⟩ := r; exact ⟨_, .str x t⟩
  | _, _, _, @DatV.lst _ _ a xs ds h q, r => by
    cases (show _ = Value.ref a from r)
    obtain ⟨its, hv, hp, _⟩ := I.list h
    obtain ⟨o, n, e, c, _, d⟩ := hp
    obtain ⟨as, z⟩ := DatVs.reads I q hv
    exact ⟨_, .list e c d (by simpa using z)⟩
  | _, _, _, @DatV.tup _ _ a xs ds h q, r => by
    cases (show _ = Value.ref a from r)
    obtain ⟨its, hv, hp, _⟩ := I.tuple h
    obtain ⟨o, e, c, n, d⟩ := hp
    obtain ⟨as, z⟩ := DatVs.reads I q hv
    exact ⟨_, .tuple e c d (by simpa using z)⟩
theorem DatVs.reads {pins : List (Addr × Obj)} {σ : St} {H : Hp} {s : Shared} (I : Inv X pins σ H s) : ∀ {xs : List V} {ds : List PyData} {us : List Value}, DatVs X.K H xs ds → Vals xs us → ∃ as, ReadsAll s.heap us ds as
  | _, _, _, .nil, .nil => ⟨_, .nil⟩
  | _, _, _, .cons h t, .cons r q => by
    obtain ⟨as, z⟩ := DatV.reads I h r
    obtain ⟨bs, y⟩ := DatVs.reads I t q
    exact ⟨_, .cons z y⟩
end
def rEqD (K : PySem.W.Frag) : R2 := fun x y H Q => ∃ d e, DatV K H x d ∧ DatV K H y e ∧ SeqAt.shaped d = true ∧ SeqAt.shaped e = true ∧ Q (.bl (PyData.eqv d e)) H
def rNeD (K : PySem.W.Frag) : R2 := fun x y H Q => ∃ d e, DatV K H x d ∧ DatV K H y e ∧ SeqAt.shaped d = true ∧ SeqAt.shaped e = true ∧ Q (.bl (!PyData.eqv d e)) H
theorem op_eqD (hu : X.A.units + 64 < cLine) : OpR X (compareOp .Eq) (rEqD X.K) := by
  intro pins s σ H x y v u Q I rx ry h
  obtain ⟨d, e, hd, he, sd, se, q⟩ := h
  obtain ⟨as, z⟩ := hd.reads I rx
  obtain ⟨bs, z'⟩ := he.reads I ry
  exact SeqAt.compareEq_shaped z z' sd se hu ⟨.bl _, H, I, rfl, q⟩
theorem op_neD (hu : X.A.units + 64 < cLine) : OpR X (compareOp .NotEq) (rNeD X.K) := by
  intro pins s σ H x y v u Q I rx ry h
  obtain ⟨d, e, hd, he, sd, se, q⟩ := h
  obtain ⟨as, z⟩ := hd.reads I rx
  obtain ⟨bs, z'⟩ := he.reads I ry
  exact SeqAt.compareNe_shaped z z' sd se hu ⟨.bl _, H, I, rfl, q⟩
end
theorem same_upd {H : Hp} {p : Addr} {o : HO} (h : H p = none) : Same H (upd H p o) := fun b u e => by
  rw [upd_ne (ne_of_none e h)]; exact e
theorem atI_lt {α : Type} (xs : List α) (i : Int) (h0 : 0 ≤ i) (h1 : i < xs.length) : ∃ v, atI xs i = some v ∧ v ∈ xs := by
  have hl : i.toNat < xs.length := by omega
  refine ⟨xs[i.toNat], ?_, List.getElem_mem hl⟩
  have e : ((i.toNat : Nat) : Int) = i := by omega
  have := atI_nat (xs := xs) (j := i.toNat) (v := xs[i.toNat]) (List.getElem?_eq_getElem hl)
  rw [e] at this
  exact this
theorem atI_ints (ns : List Int) (i : Int) (h0 : 0 ≤ i) (h1 : i < ns.length) : ∃ z, atI (ns.map V.int) i = some (.int z) ∧ z ∈ ns := by
  obtain ⟨v, e, m⟩ := atI_lt (ns.map V.int) i h0 (by simpa using h1)
  obtain ⟨z, hz, rfl⟩ := List.mem_map.mp m
  exact ⟨z, e, hz⟩
end L2
set_option Elab.async false
set_option linter.all false
set_option maxRecDepth 100000
set_option maxHeartbeats 4000000
namespace L2
open PySem PySem.Spec PyProof.Rows
def clOf (cells : List (Str × Addr)) : List (Str × NameKind) → List (Str × Addr) → List (Str × Addr)
  | [], acc => acc
  | (n, k) :: r, acc => if (k == .free) = true then clOf cells r ((n, (cells.lookup n).getD 0) :: acc) else clOf cells r acc
theorem closure_run {env : Env} : ∀ (names : List (Str × NameKind)) (acc : List (Str × Addr)), (∀ y ∈ names, y.2 = .free → ∃ c, env.cells.lookup y.1 = some c) →
    (forIn names acc (fun (x : Str × NameKind) (cs : List (Str × Addr)) => match x with
      | (name, kind) => if (kind == .free) = true then (do let a ← cellOf env name; pure (ForInStep.yield ((name, a) :: cs))) else (do pure PUnit.unit; pure (ForInStep.yield cs))) : Sem (List (Str × Addr))) = pure (clOf env.cells names acc)
  | [], acc, _ => rfl
  | (n, k) :: r, acc, h => by
    rw [List.forIn_cons]
    have hr : ∀ y ∈ r, y.2 = .free → ∃ c, env.cells.lookup y.1 = some c := fun y hy => h y (List.mem_cons_of_mem _ hy)
    by_cases hk : (k == .free) = true
    · obtain ⟨c, hc⟩ := h (n, k) List.mem_cons_self (by simpa using hk)
      have hc' : env.cells.lookup n = some c := hc
      simp only [hk, if_true, clOf, hc', Option.getD_some]
      have e : cellOf env n = pure c := by unfold cellOf; rw [hc']
      rw [e]
      exact closure_run r _ hr
    · simp only [hk, if_false, clOf]
      exact closure_run r acc hr
theorem closureFor_eq {scope : Scope} {env : Env} (h : ∀ y ∈ scope.names, y.2 = .free → ∃ c, env.cells.lookup y.1 = some c) : closureFor scope env = pure (clOf env.cells scope.names []) := by
  unfold closureFor
  have := closure_run (env := env) scope.names [] h
  first
    | exact (congrArg (fun m => m >>= fun cs => pure cs) this).trans (pure_bind _ _)
    | (simp only [] at this ⊢; rw [this]; rfl)
theorem clOf_sub {cells : List (Str × Addr)} {x : Str} {c : Addr} : ∀ {names : List (Str × NameKind)} {acc : List (Str × Addr)}, (∀ y ∈ names, y.2 = .free → ∃ c, cells.lookup y.1 = some c) → (clOf cells names acc).lookup x = some c → acc.lookup x = some c ∨ cells.lookup x = some c
  | [], acc, _, h => .inl h
  | (n, k) :: r, acc, hf, h => by
    have hr : ∀ y ∈ r, y.2 = .free → ∃ c, cells.lookup y.1 = some c := fun y hy => hf y (List.mem_cons_of_mem _ hy)
    unfold clOf at h
    by_cases hk : (k == .free) = true
    · rw [if_pos hk] at h
      rcases clOf_sub hr h with q | q
      · rw [List.lookup_cons] at q
        cases hx : x == n with
        | true =>
          rw [hx] at q
          obtain ⟨d, hd⟩ := hf (n, k) List.mem_cons_self (by simpa using hk)
          have e : x = n := by simpa using hx
          subst e
          have hd' : cells.lookup x = some d := hd
          rw [hd'] at q ⊢
          exact .inr (by simpa using q)
        | false => rw [hx] at q; exact .inl q
      · exact .inr q
    · rw [if_neg hk] at h
      exact clOf_sub hr h
theorem clOf_acc {cells : List (Str × Addr)} {x : Str} : ∀ {names : List (Str × NameKind)} {acc : List (Str × Addr)}, (∀ y ∈ names, y.2 = .free → ∃ c, cells.lookup y.1 = some c) → (∃ c, acc.lookup x = some c) → ∃ c, (clOf cells names acc).lookup x = some c
  | [], acc, _, h => h
  | (n, k) :: r, acc, hf, h => by
    have hr : ∀ y ∈ r, y.2 = .free → ∃ c, cells.lookup y.1 = some c := fun y hy => hf y (List.mem_cons_of_mem _ hy)
    unfold clOf
    by_cases hk : (k == .free) = true
    · rw [if_pos hk]
      refine clOf_acc hr ?_
      rw [List.lookup_cons]
      cases hx : x == n with
      | true => exact ⟨_, rfl⟩
      | false => exact h
    · rw [if_neg hk]
      exact clOf_acc hr h
theorem clOf_has {cells : List (Str × Addr)} {x : Str} : ∀ {names : List (Str × NameKind)} {acc : List (Str × Addr)}, (∀ y ∈ names, y.2 = .free → ∃ c, cells.lookup y.1 = some c) → names.lookup x = some .free → ∃ c, (clOf cells names acc).lookup x = some c
  | [], acc, _, h => by simp at h
  | (n, k) :: r, acc, hf, h => by
    have hr : ∀ y ∈ r, y.2 = .free → ∃ c, cells.lookup y.1 = some c := fun y hy => hf y (List.mem_cons_of_mem _ hy)
    rw [List.lookup_cons] at h
    unfold clOf
    cases hx : x == n with
    | true =>
      rw [hx] at h
      have hk : k = .free := by simpa using h
      subst hk
      rw [if_pos (show (NameKind.free == NameKind.free) = true from rfl)]
      refine clOf_acc hr ⟨(cells.lookup n).getD 0, ?_⟩
      rw [List.lookup_cons, hx]
    | false =>
      rw [hx] at h
      by_cases hk : (k == .free) = true
      · rw [if_pos hk]; exact clOf_has hr h
      · rw [if_neg hk]; exact clOf_has hr h
theorem lookup_mem {x : Str} {k : NameKind} : ∀ {names : List (Str × NameKind)}, names.lookup x = some k → (x, k) ∈ names
  | [], h => by simp at h
  | (n, j) :: r, h => by
    rw [List.lookup_cons] at h
    cases hx : x == n with
    | true =>
      rw [hx] at h
      have e : x = n := by simpa using hx
      have e2 : j = k := by simpa using h
      subst e; subst e2
      exact List.mem_cons_self
    | false => rw [hx] at h; exact List.mem_cons_of_mem _ (lookup_mem h)
theorem lookup_relabel {env : Env} {x : Str} : ∀ {names : List (Str × NameKind)},
    (names.map fun (n, k) => if (k == NameKind.free && env.scope.kind == .function && env.kindOf n == some .cell) then (n, NameKind.cell) else (n, k)).lookup x
      = (names.lookup x).map fun k => if (k == NameKind.free && env.scope.kind == .function && env.kindOf x == some .cell) then NameKind.cell else k
  | [] => rfl
  | (n, k) :: r => by
    have ih := @lookup_relabel env x r
    show List.lookup x ((if (k == NameKind.free && env.scope.kind == .function && env.kindOf n == some .cell) = true then (n, NameKind.cell) else (n, k)) :: _) = _
    cases hx : x == n with
    | true =>
      have e : x = n := by simpa using hx
      subst e
      by_cases hc : (k == NameKind.free && env.scope.kind == .function && env.kindOf x == some .cell) = true
      · rw [if_pos hc]
        simp only [List.lookup_cons, beq_self_eq_true, Option.map_some]
        rw [if_pos hc]
      · rw [if_neg hc]
        simp only [List.lookup_cons, beq_self_eq_true, Option.map_some]
        rw [if_neg hc]
    | false =>
      by_cases hc : (k == NameKind.free && env.scope.kind == .function && env.kindOf n == some .cell) = true
      · rw [if_pos hc]; simp only [List.lookup_cons, hx]; exact ih
      · rw [if_neg hc]; simp only [List.lookup_cons, hx]; exact ih
abbrev cCx (X : Cx) (scope : Scope) (N' : List Str) (C : Addr) (s₀ : Shared) (H₀ : Hp) (ex : List Addr) (pn : List (Addr × Obj)) : Cx :=
  { X with N := N', s₀ := s₀, H₀ := H₀, env := compEnvC scope (clOf X.env.cells scope.names []) C X.env, outer := X.stack, stack := X.stack, ex := ex, fn := fun _ => false, pn := pn, xe := fun _ _ => False }
def PTs (Y : Cx) (ifs : List Expr) (t : TT) : Prop :=
  ∀ (pins : List (Addr × Obj)) (s : Shared) (σ : St) (H : Hp) (Q : Bool → Hp → Prop), Inv Y pins σ H s → t σ H Q →
    wpAny (model Y.prog Y.w) Y.A (forIn ifs true fun c r => if r = true then do let ok ← isTrue c Y.env (eval c Y.env); pure (ForInStep.yield ok) else pure (ForInStep.yield r)) (TP Y pins σ Q) Y.xe s
def tYes : TT := fun _ H Q => Q true H
theorem pts_nil {Y : Cx} : PTs Y [] tYes := fun _ _ _ H _ I h => wpAny_pure ⟨H, I, h⟩
theorem pts_one {Y : Cx} {c : Expr} {t : TT} (h : PT Y c t) : PTs Y [c] t := fun pins s σ H Q I hw => PySem.wpAny_tests_one (h pins s σ H Q I hw)
theorem HOk.but {P : Program} {w : World} {H : Hp} {h h' : Heap} {C : Addr} (ok : HOk P w H h) (hn : H C = none) (hs : Heap.SameBut C h h') : HOk P w H h' := fun b ob e => by
  refine (ok b ob e).stay (fun c w' hc q => (hs.2 c ?_).trans q) (fun _ q => q) fun _ _ q => q
  rintro rfl
  rcases hc with rfl | hc
  · rw [hn] at e; cases e
  · rw [hn] at hc; cases hc
theorem Un.but {fs ex : List Addr} {H H' : Hp} {h h1 h2 : Heap} {C : Addr} (u : Un fs ex H H' h h1) (hs : Heap.SameBut C h1 h2) (hC : ∀ b o, h.get? b = some o → b ≠ C) : Un fs ex H H' h h2 where
  keep := fun b o e n hb hx => (hs.2 b (hC b o e)).trans (u.keep b o e n hb hx)
  slot := fun b o e n hb hx => by
    obtain ⟨sl, q⟩ := u.slot b o e n hb hx
    exact ⟨sl, (hs.2 b (hC b o e)).trans q⟩
  free := u.free
  there := fun b o e hx => by
    obtain ⟨o', q⟩ := u.there b o e hx
    exact ⟨o', (hs.2 b (hC b o e)).trans q⟩
  tups := u.tups
  frzs := u.frzs
  tbls := u.tbls
section
variable {X : Cx}
def tComp (k : Nat) (wi : TI) (g : TG) (tt : TT) (te : TE) : TE := fun σ H Q => wi σ H fun J H1 => ∀ D, H1 D = none → ∃ W : Nat → Nat → List V → Hp → Prop, (∃ m, W 0 m [] (upd H1 D (.lst []))) ∧ ∀ i m ys H, W i m ys H →
  (J.stop i H ∧ Q (.ref D) H) ∨ (J.go i H ∧ ∃ N : List V → Hp → Prop, (∀ ys' H', N ys' H' → ∃ m', m' < m ∧ W (i + 1) m' ys' H') ∧
    ∀ x H', J.yld i H x H' → g x (List.replicate k none ++ σ) H' fun σ2 H2 => (∃ vs : St, vs.length = k ∧ σ2 = vs ++ σ) ∧ tt σ2 H2 fun b H3 => if b = true then te σ2 H3 fun y H4 => H4 D = some (.lst ys) ∧ ys.length < sizeLine ∧ N (ys ++ [y]) (upd H4 D (.lst (ys ++ [y]))) else N ys H3)
theorem comp_loop {Y : Cx} {tg elt iter : Expr} {ifs : List Expr} {scope : Scope} {pos : Pos} {it D : Addr} {g : TG} {tt : TT} {te : TE} {J : It} {fp : List Addr} {tn : Nat → Heap → Prop} {k : Nat} {σ : St} {Q : VK}
    (hc : Y.calm = true) (hx : Y.xe = fun _ _ => False) (hg : PG Y tg g) (ht : PTs Y ifs tt) (he : PE Y elt te) (T : Turn Y.prog Y.w Y.K tg J fp it tn) (hf : ∀ H : Hp, (∀ b ∈ fp, H b = none) → ∀ b ∈ fp, FpOk Y [] H b)
    (W : Nat → Nat → List V → Hp → Prop)
    (turn : ∀ i m ys H, W i m ys H → (J.stop i H ∧ Q (.ref D) H) ∨ (J.go i H ∧ ∃ N : List V → Hp → Prop, (∀ ys' H', N ys' H' → ∃ m', m' < m ∧ W (i + 1) m' ys' H') ∧
      ∀ x H', J.yld i H x H' → g x (List.replicate k none ++ σ) H' fun σ2 H2 => (∃ vs : St, vs.length = k ∧ σ2 = vs ++ σ) ∧ tt σ2 H2 fun b H3 => if b = true then te σ2 H3 fun y H4 => H4 D = some (.lst ys) ∧ ys.length < sizeLine ∧ N (ys ++ [y]) (upd H4 D (.lst (ys ++ [y]))) else N ys H3))
    (n : Nat) (s : Shared) (h : ∃ i ys H, Inv Y [] (List.replicate k none ++ σ) H s ∧ tn i s.heap ∧ (∀ b ∈ fp, H b = none) ∧ W i n ys H) :
    codeAny (model Y.prog Y.w) Y.A (.compLoop (.ListComp elt [⟨tg, iter, ifs, 0⟩] scope pos) 0 (.ref it) (.ref D) Y.env) (fun r s' => r = .ok .next ∧ ∃ H', Inv Y [] (List.replicate k none ++ σ) H' s' ∧ Q (.ref D) H') s := by
  refine codeAny_loop rfl (fun n s => ∃ i ys H, Inv Y [] (List.replicate k none ++ σ) H s ∧ tn i s.heap ∧ (∀ b ∈ fp, H b = none) ∧ W i n ys H) ?_ n h
  rintro n s3 ⟨i, ys, H3, I3, st3, fr3, w3⟩
  show wpAny _ Y.A ((compTurn (.ListComp elt [⟨tg, iter, ifs, 0⟩] scope pos) 0 (.ref it) (.ref D) Y.env).onRaise (fun x => do noteFrame x Y.env; theTreesLotGoes x)) _ _ s3
  refine PySem.wpAny_noted ?_
  rw [PySem.compTurn_list]
  have no : ∀ {α : Type} {m : Sem α} {P : α → Shared → Prop} {E : Value → Shared → Prop} {s : Shared}, wpAny (model Y.prog Y.w) Y.A m P Y.xe s → wpAny (model Y.prog Y.w) Y.A m P E s := fun {α m P E s} h =>
    wpAny_mono h (fun _ _ q => q) fun _ _ q => by rw [hx] at q; exact q.elim
  refine wpAny_bind (wpAny_standAt (wpAny_bind ?_))
  rcases turn i n ys H3 w3 with ⟨stop, qn⟩ | ⟨go, N, hN, step⟩
  · refine thn (T.done Y rfl rfl rfl hc i [] s3 (List.replicate k none ++ σ) H3 _ I3 (hf H3 fr3) st3 stop) fun r s4 ⟨hr, I4⟩ => ?_
    subst hr
    exact wpAny_pure ⟨rfl, H3, I4, qn⟩
  · refine thn (T.item Y rfl rfl rfl hc i [] s3 (List.replicate k none ++ σ) H3 _ I3 (hf H3 fr3) st3 go) fun r s4 ⟨u, hr, h4⟩ => ?_
    subst hr
    refine wpAny_bind (thn h4 fun _ s5 ⟨x, H5, I5, r5, y5, st5, fr5⟩ => ?_)
    have I5' := I5.pinned (hf H5 fr5) (T.obj _ _ st5)
    refine wpAny_bind (no (thn (hg _ s5 (List.replicate k none ++ σ) H5 x u _ I5' r5 (step x H5 y5)) fun _ s6 ⟨σ6, H6, I6, ⟨vs, hvs, e6⟩, q6⟩ => ?_))
    subst e6
    have forget : ∀ {pins : List (Addr × Obj)} {H : Hp} {s : Shared}, Inv Y pins (vs ++ σ) H s → Inv Y pins (List.replicate k none ++ σ) H s := fun {pins H s} I => I.weak (by simp [hvs]) fun i v e => by
      by_cases hi : i < k
      · rw [List.getElem?_append_left (by simpa using hi)] at e
        simp [List.getElem?_replicate, hi] at e
      · rw [List.getElem?_append_right (by simpa using Nat.le_of_not_lt hi)] at e
        rw [List.getElem?_append_right (by omega)]
        simpa [hvs] using e
    refine wpAny_bind (no (thn (ht _ s6 (vs ++ σ) H6 _ I6 q6) fun b s7 ⟨H7, I7, q7⟩ => ?_))
    have again : ∀ {H8 : Hp} {s8 : Shared} {ys' : List V}, Inv Y ([] ++ pinsAt fp s5.heap) (vs ++ σ) H8 s8 → N ys' H8 → ∃ m, m < n ∧ ∃ i ys H, Inv Y [] (List.replicate k none ++ σ) H s8 ∧ tn i s8.heap ∧ (∀ b ∈ fp, H b = none) ∧ W i m ys H := fun {H8 s8 ys'} I8 n8 => by
      obtain ⟨m', hm, w8⟩ := hN ys' H8 n8
      refine ⟨m', hm, i + 1, ys', H8, forget I8.unpinned, T.keep _ _ _ st5 fun b hb o e => (I8.pin (b, o) (List.mem_append_right _ (List.mem_append_right _ (mem_pinsAt hb e)))).1, fun b hb => ?_, w8⟩
      obtain ⟨o, e, d⟩ := T.obj _ _ st5 b hb
      exact (I8.pin (b, o) (List.mem_append_right _ (List.mem_append_right _ (mem_pinsAt hb e)))).2.1
    cases b with
    | false =>
      rw [if_neg Bool.false_ne_true] at q7
      exact wpAny_pure ⟨rfl, again I7 q7⟩
    | true =>
      rw [if_pos rfl] at q7
      refine wpAny_bind (wpAny_bind (no (thn (he _ s7 (vs ++ σ) H7 _ I7 q7) fun y s8 ⟨y', H8, I8, ry, q8, l8, n8⟩ => ?_)))
      exact wpAny_bind (no (thn (mt_append _ s8 (vs ++ σ) H8 (.ref D) [y'] (.ref D) [y] (fun _ H' => N (ys ++ [y']) H') I8 rfl (.cons ry .nil) ⟨D, ys, y', rfl, rfl, q8, l8, n8⟩) fun _ s9 ⟨_, H9, I9, _, q9⟩ => wpAny_pure (wpAny_pure ⟨rfl, again I9 q9⟩)))
structure CompOk (X : Cx) (scope : Scope) (N' : List Str) (k : Nat) : Prop where
  cell : ∀ y ∈ scope.names, y.2 ≠ .cell
  kind : scope.kind = .function
  names : ∀ y ∈ scope.names, y.2 = .local → scope.names.lookup y.1 = some .local
  free : ∀ y ∈ scope.names, y.2 = .free → X.env.scope.names.lookup y.1 = some .cell
  len : N'.length = k + X.N.length
  sub : ∀ i x, N'[k + i]? = some x → scope.names.lookup x = some .free → X.N[i]? = some x
  loc : ∀ i x, N'[k + i]? = some x → scope.names.lookup x ≠ some .local
theorem CompOk.cells {scope : Scope} {N' : List Str} {k : Nat} {pins : List (Addr × Obj)} {σ : St} {H : Hp} {s : Shared} (c : CompOk X scope N' k) (I : Inv X pins σ H s) : ∀ y ∈ scope.names, y.2 = .free → ∃ a, X.env.cells.lookup y.1 = some a := fun y hy e =>
  I.ok.has y.1 (.inl (c.free y hy e))
theorem inv_comp {scope : Scope} {N' : List Str} {k : Nat} {pins : List (Addr × Obj)} {σ : St} {H : Hp} {s s₄ : Shared} {fp : List Addr} {m : Str → Option Value} (c : CompOk X scope N' k) (hc : X.calm = true) (I : Inv X pins σ H s)
    (hf : ∀ b ∈ fp, FpOk X pins H b) (hfl : ∀ b ∈ fp, b < s.heap.objs.size) (hb : ∀ b ∈ fp, X.base.get? b = none) (hns : s₄.heap.Ns s.heap.objs.size m) (hk : ∀ b o, s.heap.get? b = some o → s₄.heap.get? b = some o) (ho : s₄.os = s.os) (hg : s₄.gens = s.gens) :
    Inv (cCx X scope N' s.heap.objs.size s H fp (X.pn ++ pins)) [] (List.replicate k none ++ σ) H s₄ := by
  have hcl := c.cells I
  have sub : ∀ x a, (clOf X.env.cells scope.names []).lookup x = some a → X.env.cells.lookup x = some a := fun x a e => by
    rcases clOf_sub hcl e with q | q
    · simp at q
    · exact q
  have kinds : ∀ x, (compEnvC scope (clOf X.env.cells scope.names []) s.heap.objs.size X.env).kindOf x = some .cell ∨ (compEnvC scope (clOf X.env.cells scope.names []) s.heap.objs.size X.env).kindOf x = some .free → scope.names.lookup x = some .free := fun x hx => by
    have e : (compEnvC scope (clOf X.env.cells scope.names []) s.heap.objs.size X.env).kindOf x = (scope.names.lookup x).map fun k => if (k == NameKind.free && X.env.scope.kind == .function && X.env.kindOf x == some .cell) then NameKind.cell else k := lookup_relabel
    rw [e] at hx
    cases q : scope.names.lookup x with
    | none => rw [q] at hx; simp at hx
    | some j =>
      rw [q] at hx
      have hj : j ≠ .cell := c.cell (x, j) (lookup_mem q)
      cases j <;> simp_all
  have fresh : ∀ b, s.heap.objs.size ≤ b → s.heap.get? b = none := fun b hb => Heap.get?_none_of_le hb
  have ne : ∀ b o, s.heap.get? b = some o → b ≠ s.heap.objs.size := fun b o e => Nat.ne_of_lt (Heap.lt_size e)
  have cl_lt : ∀ x a, X.env.cells.lookup x = some a → a < s.heap.objs.size := fun x a e => by
    obtain ⟨v, o, h1, _⟩ := I.cell x a e
    exact Heap.lt_size h1
  refine ⟨⟨I.ok.mod, c.kind, I.ok.glob, I.ok.blt, Nat.le_refl _, fun x y a e1 e2 => I.ok.inj x y a (sub x a e1) (sub y a e2), fun x hx => clOf_has hcl (kinds x hx), (fun _ _ z => nomatch z), I.ok.hd, I.ok.frames, .inl rfl, fun b hb' => ⟨Nat.ne_of_lt (hfl b hb'), fun x a e => (hf b hb').2.2.2.2.1 x a (sub x a e)⟩,
      I.bs, Nat.le_trans I.ok.bsz I.sz, (fun b o e hb' => by rw [hb b hb'] at e; cases e), fun b hb' hz => ?_, I.stack, I.stkFree⟩, ho, by rw [hg]; exact I.bare, Un.kept hk, ⟨m, hns, fun i x v e1 e2 e3 => ?_⟩, fun x a e => ?_, I.hok.fresh (Nat.le_refl _), fun x a e => I.freeC x a (sub x a e), fun p hp => ?_, I.hok.kept hk, ?_⟩
  · rcases List.mem_cons.mp (I.stkSub b hz) with z | z
    · exact (hf b hb').2.1 z
    · exact (hf b hb').2.2.1 z
  · have hi : k ≤ i := by
      refine Nat.le_of_not_lt fun hi => ?_
      rw [List.getElem?_append_left (by simpa using hi)] at e2
      simp [List.getElem?_replicate, hi] at e2
    obtain ⟨j, rfl⟩ : ∃ j, i = k + j := ⟨i - k, by omega⟩
    rw [List.getElem?_append_right (by simp)] at e2
    have e2' : σ[j]? = some (some v) := by simpa using e2
    have e : (relabel scope X.env).names.lookup x = (scope.names.lookup x).map fun k => if (k == NameKind.free && X.env.scope.kind == .function && X.env.kindOf x == some .cell) then NameKind.cell else k := lookup_relabel
    have hfree : scope.names.lookup x = some .free := by
      cases q : scope.names.lookup x with
      | none =>
        rcases e3 with z | z | z
        all_goals (have z' : (relabel scope X.env).names.lookup x = some _ := z; rw [e, q] at z'; simp at z')
      | some j' =>
        have h1 : j' ≠ .cell := c.cell (x, j') (lookup_mem q)
        have h2 : j' ≠ .local := fun z => c.loc j x e1 (by rw [q, z])
        rcases e3 with z | z | z
        all_goals (have z' : (relabel scope X.env).names.lookup x = some _ := z; rw [e, q] at z'; cases j' <;> simp_all)
    have hX := c.sub j x e1 hfree
    have hcellX := c.free (x, .free) (lookup_mem hfree) rfl
    obtain ⟨m0, hn0, hl0⟩ := I.loc
    obtain ⟨u, r, l⟩ := hl0 j x v hX e2' (.inr (.inl hcellX))
    refine ⟨u, r, ?_⟩
    rcases l with ⟨z, _⟩ | ⟨_, a, ea, hz⟩
    · have z' : X.env.scope.names.lookup x = some .local := z
      rw [hcellX] at z'; cases z'
    · obtain ⟨a', ea'⟩ := clOf_has (acc := []) hcl hfree
      have e4 := sub x a' ea'
      rw [ea] at e4
      cases e4
      refine .inr ⟨.inl ?_, a, ea', ?_⟩
      · show (relabel scope X.env).names.lookup x = some .cell
        rw [e, hfree]
        have k1 : (X.env.scope.kind == .function) = true := by rw [I.ok.kind]; rfl
        have k2 : (X.env.kindOf x == some .cell) = true := by
          have : X.env.kindOf x = some .cell := hcellX
          rw [this]; rfl
        simp [k1, k2]
      · obtain ⟨o, h1, h2⟩ := hz
        exact ⟨o, hk _ _ h1, h2⟩
  · obtain ⟨v, o, h1, h2⟩ := I.cell x a (sub x a e)
    exact ⟨v, o, hk _ _ h1, h2⟩
  · have hp' : p ∈ X.pn ++ pins := by simpa using hp
    obtain ⟨e, n, nl, nf, d⟩ := I.pin p hp'
    refine ⟨hk _ _ e, n, ne _ _ e, fun z => ?_, d⟩
    rcases List.mem_cons.mp (I.stkSub _ z) with z | z
    · exact nl z
    · exact nf z
  · show (List.replicate k none ++ σ).length = N'.length
    rw [c.len, List.length_append, List.length_replicate, I.len]
theorem comp_block {elt iter tg : Expr} {ifs : List Expr} {scope : Scope} {pos : Pos} {g : TG} {tt : TT} {te : TE} {N' : List Str} {k : Nat} {it : Addr} {J : It} {fp : List Addr} {tn : Nat → Heap → Prop} {pins : List (Addr × Obj)} {σ : St} {H : Hp} {s : Shared} {Q : VK} {RR : Value → Addr → Result → Shared → Prop} {E : Value → Shared → Prop}
    (c : CompOk X scope N' k) (hc : X.calm = true) (I : Inv X pins σ H s) (T : Turn X.prog X.w X.K tg J fp it tn) (st : tn 0 s.heap) (hf : ∀ b ∈ fp, FpOk X pins H b)
    (hg : ∀ C s₀ H₀ ex pn, PG (cCx X scope N' C s₀ H₀ ex pn) tg g) (ht : ∀ C s₀ H₀ ex pn, PTs (cCx X scope N' C s₀ H₀ ex pn) ifs tt) (he : ∀ C s₀ H₀ ex pn, PE (cCx X scope N' C s₀ H₀ ex pn) elt te)
    (h : ∀ D, H D = none → ∃ W : Nat → Nat → List V → Hp → Prop, (∃ m, W 0 m [] (upd H D (.lst []))) ∧ ∀ i m ys H, W i m ys H →
      (J.stop i H ∧ Q (.ref D) H) ∨ (J.go i H ∧ ∃ N : List V → Hp → Prop, (∀ ys' H', N ys' H' → ∃ m', m' < m ∧ W (i + 1) m' ys' H') ∧
        ∀ x H', J.yld i H x H' → g x (List.replicate k none ++ σ) H' fun σ2 H2 => (∃ vs : St, vs.length = k ∧ σ2 = vs ++ σ) ∧ tt σ2 H2 fun b H3 => if b = true then te σ2 H3 fun y H4 => H4 D = some (.lst ys) ∧ ys.length < sizeLine ∧ N (ys ++ [y]) (upd H4 D (.lst (ys ++ [y]))) else N ys H3))
    (fin : ∀ D C s' H' m, s'.heap.Ns C m → C ≠ X.env.locals → (∀ x a, X.env.cells.lookup x = some a → a ≠ C) → (H' C = none ∧ X.s₀.heap.objs.size ≤ C ∧ ∀ p ∈ X.pn ++ pins, p.1 ≠ C) → (∀ h', Heap.SameBut C s'.heap h' → Inv X pins σ H' { s' with heap := h' }) → Q (.ref D) H' → RR (.ref D) C (.ok .next) s') :
    wpAny (model X.prog X.w) X.A (newList []) (fun acc s₃ => wpAny (model X.prog X.w) X.A (newFunctionEnv scope X.env.globals (clOf X.env.cells scope.names []) [] X.env.qual none .none (some X.env)) (fun cenv s₄ =>
      codeAny (model X.prog X.w) X.A (.compStart (.ListComp elt [⟨tg, iter, ifs, 0⟩] scope pos) 0 (.ref it) acc { cenv with scope := relabel scope X.env }) (RR acc cenv.locals) s₄) E s₃) E s := by
  refine wpAny_newObj_type (wpAny_newFunctionEnv c.cell (by intro y hy; simp at hy) (fun h₁ hns₁ hsb₁ => ?_) c.kind)
  dsimp only at hns₁ hsb₁ ⊢
  have I3 : Inv X pins σ (upd H s.heap.objs.size (.lst [])) { s with heap := s.heap.push { cls := .type "list", data := .seq ([] : List Value).toArray }, toks := s.toks } := I.lnew (ys := []) (its := []) .nil (Nat.zero_le _)
  generalize hH2 : s.heap.push { cls := .type "list", dict := none, data := .seq ([] : List Value).toArray } = hp at hns₁ hsb₁ I3 ⊢
  have hlt : ∀ b o, s.heap.get? b = some o → hp.get? b = some o := fun b o e => by rw [← hH2]; exact Heap.get?_push_of_some _ e
  have hnD : H s.heap.objs.size = none := I.hok.fresh (Nat.le_refl _)
  have kp : ∀ b o, hp.get? b = some o → h₁.get? b = some o := fun b o e => hsb₁.extBut b o (Nat.ne_of_lt (Heap.lt_size e)) (Heap.get?_push_of_some _ e)
  have stk : ∀ b ∈ fp, s.heap.get? b ≠ none := fun b hb z => by
    obtain ⟨o, e, _⟩ := T.obj _ _ st b hb
    rw [z] at e; cases e
  have flt : ∀ b ∈ fp, b < s.heap.objs.size := fun b hb => by
    obtain ⟨o, e, _⟩ := T.obj _ _ st b hb
    exact Heap.lt_size e
  have fpD : ∀ b ∈ fp, b ≠ s.heap.objs.size := fun b hb => Nat.ne_of_lt (flt b hb)
  have hf3 : ∀ b ∈ fp, FpOk X pins (upd H s.heap.objs.size (.lst [])) b := fun b hb => by
    obtain ⟨a1, a2⟩ := hf b hb
    exact ⟨by rw [upd_ne (fpD b hb)]; exact a1, a2⟩
  have hnb : ∀ b ∈ fp, X.base.get? b = none := fun b hb => by
    cases e : X.base.get? b with
    | none => rfl
    | some o =>
      rcases (hf b hb).2.2.2.1 with z | z
      · exact absurd z (I.ok.noex b o e)
      · have := Heap.lt_size (I.ok.bs b o e).1
        exact absurd (Nat.lt_of_lt_of_le this z) (Nat.lt_irrefl _)
  have hsz : s.heap.objs.size < hp.objs.size := by rw [← hH2, Heap.size_push]; exact Nat.lt_succ_self _
  have IY := inv_comp (s₄ := { s with heap := h₁, toks := s.toks + ([] : List (Str × Value)).length }) (fp := fp) c hc I3 hf3 (fun b hb => Nat.lt_trans (flt b hb) hsz) hnb hns₁ kp rfl rfl
  obtain ⟨W, ⟨m0, w0⟩, turn⟩ := h s.heap.objs.size hnD
  have run := comp_loop (Y := cCx X scope N' hp.objs.size { s with heap := hp, toks := s.toks } (upd H s.heap.objs.size (.lst [])) fp (X.pn ++ pins)) (tg := tg) (elt := elt) (iter := iter) (ifs := ifs) (scope := scope) (pos := pos) (it := it) (D := s.heap.objs.size) (k := k) (σ := σ) (Q := Q)
    hc rfl (hg _ _ _ _ _) (ht _ _ _ _ _) (he _ _ _ _ _) T (fun H' hn b hb => ⟨hn b hb, Nat.ne_of_lt (Nat.lt_trans (flt b hb) hsz), fun z => (IY.ok.exfs b hb) z, .inl hb, fun x a e => (IY.ok.exf b hb).2 x a e, fun p hp => by
      have hp' : p ∈ X.pn ++ pins := by simpa using hp
      exact (hf b hb).2.2.2.2.2 p hp'⟩) W turn m0
  have st₁ : tn 0 h₁ := T.keep _ _ _ st fun b hb o e => kp b o (hlt b o e)
  have go := run { s with heap := h₁, toks := s.toks + ([] : List (Str × Value)).length } ⟨0, [], _, IY, st₁, fun b hb => (hf3 b hb).1, w0⟩
  have out : ∀ r s', (r = Except.ok Flow.next ∧ ∃ H', Inv (cCx X scope N' hp.objs.size { s with heap := hp, toks := s.toks } (upd H s.heap.objs.size (.lst [])) fp (X.pn ++ pins)) [] (List.replicate k none ++ σ) H' s' ∧ Q (.ref s.heap.objs.size) H') → RR (.ref s.heap.objs.size) hp.objs.size r s' := by
    rintro r s' ⟨rfl, H', J', q⟩
    obtain ⟨m, hn, _⟩ := J'.loc
    have hC : hp.objs.size ≠ X.env.locals := Nat.ne_of_gt (Nat.lt_of_lt_of_le I.lt (Nat.le_of_lt hsz))
    refine fin _ _ s' H' m hn hC (fun x a e => ?_) ⟨J'.free, Nat.le_trans I.sz (Nat.le_of_lt hsz), fun p hp' => Nat.ne_of_lt (Nat.lt_trans (Heap.lt_size (I.pin p hp').1) hsz)⟩ (fun h' hs' => ?_) q
    · obtain ⟨v, o, h1, _⟩ := I.cell x a e
      exact Nat.ne_of_lt (Nat.lt_trans (Heap.lt_size h1) hsz)
    · refine I.call' (ch := fp) ?_ ?_ ?_ J'.bare fun b hb => ⟨(hf b hb).2.2.2.1, (hf b hb).2.1, (hf b hb).2.2.2.2.1, (hf b hb).2.2.2.2.2⟩
      · exact J'.os
      · have u1 : Un (frs X.stack) fp H (upd H s.heap.objs.size (.lst [])) s.heap hp := Un.laid hlt (Nat.le_refl _) hnD
        exact (u1.trans J'.base).but hs' fun b o e => Nat.ne_of_lt (Nat.lt_trans (Heap.lt_size e) hsz)
      · exact J'.hok.but J'.free hs'
  exact codeAny_compStart_list (codeAny_mono go out) (T.self _ 0 _ _ _ st₁ (codeAny_mono go out))
theorem pe_comp {elt iter tg : Expr} {ifs : List Expr} {scope : Scope} {pos : Pos} {wi : TI} {g : TG} {tt : TT} {te : TE} {N' : List Str} {k : Nat}
    (c : CompOk X scope N' k) (hc : X.calm = true) (hi : PI X tg iter wi)
    (hg : ∀ C s₀ H₀ ex pn, PG (cCx X scope N' C s₀ H₀ ex pn) tg g) (ht : ∀ C s₀ H₀ ex pn, PTs (cCx X scope N' C s₀ H₀ ex pn) ifs tt) (he : ∀ C s₀ H₀ ex pn, PE (cCx X scope N' C s₀ H₀ ex pn) elt te)
    (hs : ∀ x, foldedSetIterable iter X.env x = pure x := by intro _; rfl) : PE X (.ListComp elt [⟨tg, iter, ifs, 0⟩] scope pos) (tComp k wi g tt te) := by
  intro pins s σ H Q I h
  rw [PySem.eval_ListComp]
  refine PySem.wpAny_comprehension_free (use := none) rfl hs (closureFor_eq (c.cells I)) c.kind c.names (thn (hi pins s σ H _ I h) fun v s1 h1 => thn h1 fun itv s2 h2 => ?_)
  obtain ⟨it, fp, tn, J, H2, rfl, I2, T, st2, f2, hW⟩ := h2
  refine comp_block (RR := fun acc C => PySem.compPost (model X.prog X.w) X.A X.xe none (EP X pins σ Q) acc C) c hc I2 T st2 f2 hg ht he hW ?_
  intro D C s' H' m hn _ _ _ hI q
  exact ⟨m, hn, fun h' hs' => ⟨.ref D, H', hI h' hs', rfl, q⟩⟩
end
end L2
set_option Elab.async false
set_option linter.all false
set_option maxRecDepth 100000
set_option maxHeartbeats 4000000
namespace L2
open PySem PySem.Spec PyProof.Rows
def ExcAt (h : Heap) (e : Addr) (cls : Value) (d : Option Addr) (T : Addr) : Prop :=
  ∃ oe vs oT ts, h.get? e = some oe ∧ oe.cls = cls ∧ oe.dict = d ∧ oe.data = .fields vs ∧ vs[1]? = some (.ref T) ∧ T ≠ e ∧ h.get? T = some oT ∧ oT.data = .fields ts ∧ ts[3]? = some .none
def CX1 (P : Program) (w : World) : CXT := fun outer H s E ev s' => ∃ e T cls d H', ev = .ref e ∧ s'.os = s.os ∧ AllBare s'.gens ∧ Un (frs outer) [] H H' s.heap s'.heap ∧ HOk P w H' s'.heap ∧
  s.heap.get? e = none ∧ s.heap.get? T = none ∧ H' e = none ∧ H' T = none ∧ ExcAt s'.heap e cls d T ∧ (∀ dx, d = some dx → ∃ fs, H' dx = some (.xd fs)) ∧ E cls d H'
theorem dict_mapF (f : Array Value → Array Value) (o : Obj) : (Obj.mapFields f o).dict = o.dict := by
  unfold Obj.mapFields; split <;> rfl
structure Noted (fs : List Addr) (e : Addr) (no : Addr → Prop) (h h' : Heap) : Prop where
  keep : ∀ b o, b ≠ e → ¬ no b → b ∉ fs → h.get? b = some o → h'.get? b = some o
  slot : ∀ b o, b ≠ e → ¬ no b → b ∈ fs → h.get? b = some o → ∃ sl, h'.get? b = some { o with slots := sl }
  size : h.objs.size ≤ h'.objs.size
section
variable {M : Model} {A : Around} {E : Value → Shared → Prop} {s : Shared}
theorem entry1 {base : Heap} {env : Env} {outer : List Env} {L e : Addr} {oe : Obj} {vs : Array Value} {head : Value} {hadNext : Bool} {Q : Unit → Shared → Prop}
    (hfr : A.frames = some (env :: outer)) (hl : s.heap.FunFrames base (env :: outer)) (hf : env.frame = some L) (he : s.heap.get? e = some oe) (hd : oe.data = .fields vs) (hsz : 1 < vs.size)
    (hQ : ∀ h', Noted (frs (env :: outer)) e (fun _ => False) s.heap h' → (∃ T oe' vs' oT ts, s.heap.get? T = none ∧ h'.get? e = some oe' ∧ oe'.cls = oe.cls ∧ oe'.dict = oe.dict ∧ oe'.data = .fields vs' ∧ vs'[1]? = some (.ref T) ∧ T ≠ e ∧ h'.get? T = some oT ∧ oT.data = .fields ts ∧ ts[3]? = some (rawInt L)) → Q () { s with heap := h' }) :
    wpAny M A (do let a ← frameOf env; let pl ← entryPlaceOf L hadNext; let b ← EntryCells.newEntry head a .none (rawInt L) .none pl; setField (.ref e) 1 b) Q E s := by
  have efr : e ∉ frs (env :: outer) := fun z => by
    obtain ⟨_, o, q1, q2⟩ := hl.mem z
    rw [he] at q1
    cases q1
    exact q2 vs hd
  refine wpAny_bind (wpAny_frameOf_fun hfr hl hf fun g1 sg => ?_)
  refine wpAny_bind (wpAny_entryPlaceOf fun pl ipl => ?_)
  unfold EntryCells.newEntry newFields
  refine wpAny_bind (wpAny_newObj_type ?_ (ipl.sizeOk5 _ _ _ _ _))
  have e1 : g1.get? e = some oe := (sg.2.1 e efr).trans he
  generalize hnew : ({ cls := .type "traceback", dict := none, data := .fields ([head, .ref L, .none, rawInt L, .none] ++ (if pl.isEmpty then List.replicate 6 Value.none else pl)).toArray } : Obj) = oN
  have dN : oN.data = .fields ([head, .ref L, .none, rawInt L, .none] ++ (if pl.isEmpty then List.replicate 6 Value.none else pl)).toArray := by rw [← hnew]
  have e2 : (g1.push oN).get? e = some oe := Heap.get?_push_of_some _ e1
  refine wpAny_setField e2 hd hsz (hQ _ ?_ ?_)
  · have other : ∀ b o, b ≠ e → g1.get? b = some o → ((g1.push oN).update e (Obj.mapFields (·.setIfInBounds 1 (Value.ref g1.objs.size)))).get? b = some o := fun b o hb q => by
      rw [Heap.get?_update_other _ _ (Ne.symm hb)]
      exact Heap.get?_push_of_some _ q
    refine ⟨fun b o hb _ hfs q => other b o hb ((sg.2.1 b hfs).trans q), fun b o hb _ _ q => ?_, ?_⟩
    · obtain ⟨sl, q'⟩ := sg.2.2 b o q
      exact ⟨sl, other b _ hb q'⟩
    · have z1 : g1.objs.size = s.heap.objs.size := sg.1
      have z2 := ((Heap.SameBut.update (g1.push oN) e (Obj.mapFields (·.setIfInBounds 1 (Value.ref g1.objs.size))))).1
      rw [z2, Heap.size_push]
      omega
  · have ne : g1.objs.size ≠ e := Nat.ne_of_gt (Heap.lt_size e1)
    have d3 := Obj.data_mapFields hd (·.setIfInBounds 1 (Value.ref g1.objs.size))
    refine ⟨g1.objs.size, _, _, oN, _, ?_, Heap.get?_update_self _ e2 (Obj.isFreed_of_fields d3), Obj.cls_mapFields _ _, dict_mapF _ _, d3, by simp [hsz], ne, ?_, dN, by simp⟩
    · have z1 : g1.objs.size = s.heap.objs.size := sg.1
      rw [z1]
      exact Heap.get?_none_of_le (Nat.le_refl _)
    · rw [Heap.get?_update_other _ _ (Ne.symm ne)]
      exact Heap.get?_push_size _ (Obj.isFreed_of_fields dN)
theorem flight0 {e T : Addr} {oe oT : Obj} {vs ts : Array Value} {Q : Unit → Shared → Prop} (he : s.heap.get? e = some oe) (hd : oe.data = .fields vs) (h1 : vs[1]? = some (.ref T)) (hT : s.heap.get? T = some oT) (hdT : oT.data = .fields ts) (h3 : 3 < ts.size) (ne : T ≠ e)
    (hQ : ∀ h', (∀ b, b ≠ T → h'.get? b = s.heap.get? b) → h'.objs.size = s.heap.objs.size → ExcAt h' e oe.cls oe.dict T → Q () { s with heap := h' }) : wpAny M A (setFlight (.ref e) none) Q E s := by
  unfold setFlight
  refine wpAny_bind (wpAny_field he hd h1 ?_)
  rw [if_pos (show (Value.ref T != Value.none) = true from by simp)]
  have sb := Heap.SameBut.update s.heap T (Obj.mapFields (·.setIfInBounds 3 ((none : Option Addr).elim Value.none fun f => rawInt f)))
  refine wpAny_setField hT hdT h3 (hQ _ sb.2 sb.1 ?_)
  have d3 := Obj.data_mapFields hdT (·.setIfInBounds 3 ((none : Option Addr).elim Value.none fun f => rawInt f))
  exact ⟨oe, vs, _, _, (sb.2 e (Ne.symm ne)).trans he, rfl, rfl, hd, h1, ne, Heap.get?_update_self _ hT (Obj.isFreed_of_fields d3), d3, by simp [h3]⟩
theorem note_new {base : Heap} {env : Env} {outer : List Env} {L e : Addr} {oe : Obj} {vs : Array Value} {Q : Unit → Shared → Prop}
    (hfr : A.frames = some (env :: outer)) (hl : s.heap.FunFrames base (env :: outer)) (hf : env.frame = some L) (he : s.heap.get? e = some oe) (hd : oe.data = .fields vs) (h1 : vs[1]? = some .none)
    (hQ : ∀ h' T, Noted (frs (env :: outer)) e (fun _ => False) s.heap h' → s.heap.get? T = none → ExcAt h' e oe.cls oe.dict T → Q () { s with heap := h' }) :
    wpAny M A (noteFrame (.ref e) env) (fun _ s2 => wpAny M A (setFlight (.ref e) none) Q E s2) E s := by
  unfold noteFrame
  simp only [hf]
  refine wpAny_bind (wpAny_field he hd h1 ?_)
  rw [if_neg (by decide)]
  refine entry1 hfr hl hf he hd (Array.getElem?_eq_some_iff.mp h1).1 fun g ng hx => ?_
  obtain ⟨T, oe', vs', oT, ts, nT, q1, q2, q2d, q3, q4, ne, q5, q6, q7⟩ := hx
  refine flight0 (s := { s with heap := g }) q1 q3 q4 q5 q6 (Array.getElem?_eq_some_iff.mp q7).1 ne fun g' sb sz ex => ?_
  rw [q2, q2d] at ex
  have lt : ∀ b o, s.heap.get? b = some o → b ≠ T := fun b o q z => by rw [z, nT] at q; cases q
  exact hQ g' T ⟨fun b o hb hn hfs q => (sb b (lt b o q)).trans (ng.keep b o hb hn hfs q), fun b o hb hn hfs q => by
    obtain ⟨sl, q'⟩ := ng.slot b o hb hn hfs q
    exact ⟨sl, (sb b (lt b o q)).trans q'⟩, Nat.le_trans ng.size (Nat.le_of_eq sz.symm)⟩ nT ex
theorem note_next {base : Heap} {env : Env} {outer : List Env} {L e T : Addr} {cls : Value} {dd : Option Addr} {Q : Unit → Shared → Prop}
    (hfr : A.frames = some (env :: outer)) (hl : s.heap.FunFrames base (env :: outer)) (hf : env.frame = some L) (hx : ExcAt s.heap e cls dd T) (hfe : e ∉ frs (env :: outer)) (hfT : T ∉ frs (env :: outer)) (hb : base.get? T = none)
    (hQ : ∀ h' T', Noted (frs (env :: outer)) e (fun b => b = T) s.heap h' → s.heap.get? T' = none → ExcAt h' e cls dd T' → Q () { s with heap := h' }) :
    wpAny M A (noteFrame (.ref e) env) (fun _ s2 => wpAny M A (setFlight (.ref e) none) Q E s2) E s := by
  obtain ⟨oe, vs, oT, ts, he, rfl, rfl, hd, h1, ne, hT, hdT, h3⟩ := hx
  unfold noteFrame
  simp only [hf]
  refine wpAny_bind (wpAny_field he hd h1 ?_)
  rw [if_pos (show (Value.ref T != Value.none) = true from by simp)]
  refine wpAny_bind (wpAny_field hT hdT h3 ?_)
  rw [if_neg (show ¬ ((Value.none == rawInt L) = true) from by simp [rawInt])]
  have sb0 := Heap.SameBut.update s.heap T (Obj.mapFields (·.setIfInBounds 3 Value.none))
  refine wpAny_bind (wpAny_setField hT hdT (Array.getElem?_eq_some_iff.mp h3).1 ?_)
  generalize hg0 : s.heap.update T (Obj.mapFields (·.setIfInBounds 3 Value.none)) = g0 at sb0
  have fl : g0.FunFrames base (env :: outer) := hl.of_keeps fun b o q hnf => ⟨o, (sb0.2 b (fun z => by rw [z, hT] at q; cases q; exact hnf ts hdT)).trans q, rfl⟩
  have he0 : g0.get? e = some oe := (sb0.2 e (Ne.symm ne)).trans he
  refine entry1 (s := { s with heap := g0 }) hfr fl hf he0 hd (Array.getElem?_eq_some_iff.mp h1).1 fun g ng hx => ?_
  obtain ⟨T', oe', vs', oT', ts', nT, q1, q2, q2d, q3, q4, ne', q5, q6, q7⟩ := hx
  refine flight0 (s := { s with heap := g }) q1 q3 q4 q5 q6 (Array.getElem?_eq_some_iff.mp q7).1 ne' fun g' sb sz ex => ?_
  rw [q2, q2d] at ex
  have tT : T ≠ T' := fun z => by
    subst z
    have := Heap.get?_update_self (Obj.mapFields (·.setIfInBounds 3 Value.none)) hT (Obj.isFreed_of_fields (Obj.data_mapFields hdT _))
    rw [hg0] at this
    have nT' : g0.get? T = none := nT
    rw [this] at nT'
    cases nT'
  have nT0 : s.heap.get? T' = none := (sb0.2 T' (Ne.symm tT)).symm.trans nT
  have lt : ∀ b o, s.heap.get? b = some o → b ≠ T' := fun b o q z => by rw [z, nT0] at q; cases q
  exact hQ g' T' ⟨fun b o hb hn hfs q => (sb b (lt b o q)).trans (ng.keep b o hb (fun z => z) hfs ((sb0.2 b hn).trans q)), fun b o hb hn hfs q => by
    obtain ⟨sl, q'⟩ := ng.slot b o hb (fun z => z) hfs ((sb0.2 b hn).trans q)
    exact ⟨sl, (sb b (lt b o q)).trans q'⟩, Nat.le_trans (Nat.le_of_eq sb0.1.symm) (Nat.le_trans ng.size (Nat.le_of_eq sz.symm))⟩ nT0 ex
end
theorem HOk.noted {P : Program} {w : World} {H : Hp} {h h' : Heap} {fs : List Addr} {e : Addr} {no : Addr → Prop} (ok : HOk P w H h) (n : Noted fs e no h h') (he : H e = none) (hn : ∀ b, no b → H b = none) (hf : ∀ b ∈ fs, H b = none) : HOk P w H h' := fun b ob q => by
  refine (ok b ob q).stay (fun c v hc r => n.keep c v ?_ ?_ ?_ r) (fun _ z => z) fun _ _ z => z
  all_goals
    rcases hc with z | z
    all_goals intro k
  · rw [← z, k, he] at q; cases q
  · rw [k, he] at z; cases z
  · rw [← z, hn _ k] at q; cases q
  · rw [hn _ k] at z; cases z
  · rw [← z, hf _ k] at q; cases q
  · rw [hf _ k] at z; cases z
theorem Un.noted {fs fs' : List Addr} {H H' : Hp} {h h1 h2 : Heap} {e : Addr} {no : Addr → Prop} (u : Un fs [] H H' h h1) (n : Noted fs' e no h1 h2) (he : h.get? e = none) (hn : ∀ b, no b → h.get? b = none) (hs : ∀ b ∈ fs', b ∈ fs ∨ h.get? b = none) : Un fs [] H H' h h2 := by
  have ne : ∀ b o, h.get? b = some o → b ≠ e ∧ ¬ no b := fun b o q => ⟨fun z => (by rw [z, he] at q; cases q), fun z => (by rw [hn b z] at q; cases q)⟩
  have nf : ∀ b o, h.get? b = some o → b ∉ fs → b ∉ fs' := fun b o q hb z => by
    rcases hs b z with k | k
    · exact hb k
    · rw [k] at q; cases q
  refine ⟨fun b o q a hb hx => n.keep b o (ne b o q).1 (ne b o q).2 (nf b o q hb) (u.keep b o q a hb hx), fun b o q a hb hx => ?_, u.free, fun b o q hx => ?_, u.tups, u.frzs, u.tbls⟩
  · obtain ⟨sl, r⟩ := u.slot b o q a hb hx
    by_cases hb' : b ∈ fs'
    · obtain ⟨sl', r'⟩ := n.slot b _ (ne b o q).1 (ne b o q).2 hb' r
      exact ⟨sl', r'⟩
    · exact ⟨sl, n.keep b _ (ne b o q).1 (ne b o q).2 hb' r⟩
  · obtain ⟨o', r⟩ := u.there b o q hx
    by_cases hb' : b ∈ fs'
    · obtain ⟨sl', r'⟩ := n.slot b _ (ne b o q).1 (ne b o q).2 hb' r
      exact ⟨_, r'⟩
    · exact ⟨_, n.keep b _ (ne b o q).1 (ne b o q).2 hb' r⟩
def PassAt (CX : CXT) (X : Cx) (E : XK) (σ : St) : Prop := ∀ (pins : List (Addr × Obj)) (H : Hp) (s : Shared) (e : Value) (s' : Shared), Inv X pins σ H s → CX X.stack H s E e s' → X.xe e s'
def RaisesAt (X : Cx) (E : XK) (σ : St) : Prop := ∀ (pins : List (Addr × Obj)) (H : Hp) (s : Shared) (h' : Heap) (e : Addr) (C : Addr) (us : List Value), Inv X pins σ H s → Heap.MadeExcOf s.heap h' e (.ref C) us → E (.ref C) none H → X.xe (.ref e) { s with heap := h' }
theorem ObjOk.there {P : Program} {w : World} {H : Hp} {h : Heap} {a : Addr} {o : HO} (x : ObjOk P w H h a o) : ∃ ob, h.get? a = some ob := by
  cases o with
  | lst xs => obtain ⟨_, _, _, _, e⟩ := x; exact ⟨_, e⟩
  | tup xs => obtain ⟨_, _, _, ob, e, _⟩ := x; exact ⟨ob, e⟩
  | dK kvs => obtain ⟨_, _, _, _, ob, _, _, e, _⟩ := x; exact ⟨ob, e⟩
  | dT kvs => obtain ⟨_, _, _, _, ob, _, _, e, _⟩ := x; exact ⟨ob, e⟩
  | set S n => obtain ⟨ob, _, _, _, e, _⟩ := x; exact ⟨ob, e⟩
  | ins C dx fs => obtain ⟨_, _, _, e, _⟩ := x; exact ⟨_, e⟩
  | own y => exact x
  | xd fs => obtain ⟨_, ⟨ob, _, _, e, _⟩, _⟩ := x; exact ⟨ob, e⟩
  | rng lo hi => obtain ⟨_, _, _, e⟩ := x; exact ⟨_, e⟩
  | frz ob u => exact ⟨_, x.1⟩
  | tbl ps => exact ⟨_, x⟩
  | met f y => exact ⟨_, x⟩
  | ext φ => exact x.2.1
theorem HOk.gone {P : Program} {w : World} {H : Hp} {h : Heap} {a : Addr} (ok : HOk P w H h) (e : h.get? a = none) : H a = none := by
  cases q : H a with
  | none => rfl
  | some o =>
    obtain ⟨ob, z⟩ := (ok a o q).there
    rw [e] at z; cases z
theorem Un.gone {fs : List Addr} {H H' : Hp} {h h1 : Heap} {a : Addr} (u : Un fs [] H H' h h1) (e : h1.get? a = none) : h.get? a = none := by
  cases q : h.get? a with
  | none => rfl
  | some o =>
    obtain ⟨o', z⟩ := u.there a o q (by simp)
    rw [e] at z; cases z
theorem raises_def {P : Program} {w : World} {K : PySem.W.Frag} {mg : Str → Option Value} {base : Heap} {N : List Str} {qual : Str} {scope : Scope} {f : Addr} {cd : Value} {A : Around} {outer : List Env} {s₀ : Shared} {H₀ : Hp} {E : XK} {σ : St} :
    RaisesAt (cxOf (CX1 P w) P w K mg base N qual scope f cd A outer s₀ H₀ E) E σ := by
  intro pins H s h' e C us I hm hE
  obtain ⟨t, he, _, _⟩ := hm.there
  show wpAny (model P w) (A.deeper (envOfC qual scope s₀.heap.objs.size f cd)) (leaving (envOfC qual scope s₀.heap.objs.size f cd) (.ref e)) _ _ _
  unfold leaving
  have un : Un (frs outer) [] H₀ H s₀.heap s.heap := I.base
  have fl : h'.FunFrames base (envOfC qual scope s₀.heap.objs.size f cd :: outer) := I.stack.of_keeps fun b o q _ => ⟨o, hm.keeps b o q, rfl⟩
  refine wpAny_bind (note_new (s := { s with heap := h' }) (base := base) (outer := outer) I.ok.frames fl rfl he rfl rfl fun g T ng nT ex => ?_)
  have nT' : s.heap.get? T = none := by
    cases q : s.heap.get? T with
    | none => rfl
    | some o =>
      have z := hm.keeps T o q
      have nT2 : h'.get? T = none := nT
      rw [nT2] at z; cases z
  have u2 : Un (frs outer) [] H₀ H s₀.heap h' := un.trans (Un.kept hm.keeps)
  refine ⟨e, T, .ref C, none, H, rfl, I.os, I.bare, u2.noted ng (un.gone hm.new) (fun _ z => z.elim) (fun b hb => ?_), (I.hok.kept hm.keeps).noted ng (I.hok.gone hm.new) (fun _ z => z.elim) I.stkFree, un.gone hm.new, un.gone nT', I.hok.gone hm.new, I.hok.gone nT', ex, (fun _ z => nomatch z), hE⟩
  rcases List.mem_cons.mp (I.stkSub b hb) with z | z
  · exact .inr (by rw [z]; exact Heap.get?_none_of_le (Nat.le_refl _))
  · exact .inl z
theorem passes_def {P : Program} {w : World} {K : PySem.W.Frag} {mg : Str → Option Value} {base : Heap} {N : List Str} {qual : Str} {scope : Scope} {f : Addr} {cd : Value} {A : Around} {outer : List Env} {s₀ : Shared} {H₀ : Hp} {E : XK} :
    Passes (CX1 P w) (cxOf (CX1 P w) P w K mg base N qual scope f cd A outer s₀ H₀ E) E := by
  intro pins σ H s ev s' I hc
  obtain ⟨e, T, cls, dd, H', rfl, os, bare, un1, hok, ne, nT, He, HT, ex, hxd, hE⟩ := hc
  show wpAny (model P w) (A.deeper (envOfC qual scope s₀.heap.objs.size f cd)) (leaving (envOfC qual scope s₀.heap.objs.size f cd) (.ref e)) _ _ _
  unfold leaving
  have I2 : Inv _ pins σ H' s' := I.call' (ch := []) os un1 hok bare (fun b z => absurd z (by simp))
  have nf : ∀ b, s.heap.get? b = none → b ∉ frs (envOfC qual scope s₀.heap.objs.size f cd :: outer) := fun b hb z => by
    obtain ⟨_, o, q, _⟩ := I.stack.mem z
    rw [hb] at q; cases q
  have nb : base.get? T = none := by
    cases q : base.get? T with
    | none => rfl
    | some o =>
      have := I.bk T o q
      rw [nT] at this; cases this
  have fl : s'.heap.FunFrames base (envOfC qual scope s₀.heap.objs.size f cd :: outer) := I2.stack
  refine wpAny_bind (note_next (base := base) (outer := outer) I.ok.frames fl rfl ex (nf e ne) (nf T nT) nb fun g T' ng nT' ex' => ?_)
  have un0 : Un (frs outer) [] H₀ H s₀.heap s.heap := I.base
  have un2 : Un (frs outer) [] H₀ H' s₀.heap s'.heap := I2.base
  refine ⟨e, T', cls, dd, H', rfl, I2.os, bare, un2.noted ng (un0.gone ne) (fun b z => by rw [z]; exact un0.gone nT) (fun b hb => ?_), hok.noted ng He (fun b z => by rw [z]; exact HT) I2.stkFree, un0.gone ne, un2.gone nT', He, hok.gone nT', ex', hxd, hE⟩
  rcases List.mem_cons.mp (I.stkSub b hb) with z | z
  · exact .inr (by rw [z]; exact Heap.get?_none_of_le (Nat.le_refl _))
  · exact .inl z
section
variable {X : Cx}
def tCallX (sp : Sp) (dvs : List V) (E : St → XK) (t : TA) : TE := fun σ H Q => t σ H fun vs H1 => sp (vs ++ dvs) H1 Q (E σ)
theorem pe_callX {CX : CXT} {k : Nat} {f : Addr} {fd : FuncData} {ps : List Str} {sp : Sp} {ds : List Value} {dvs : List V} {E : St → XK} {x : Str} {e : Expr} {es : List Expr} {t : TA} {p pos : Pos}
    (F : FnOk X.prog X.w X.K X.mg X.base CX k f fd ps sp) (hr : Room k X.A) (hg : Gl X x) (hm : X.mg x = some (.ref f)) (hk : PySem.W.keepIn X.K (.ref f) = true) (hb : Binds X.K fd ps ds) (hd : Vals dvs ds) (hx : ∀ σ, PassAt CX X (E σ) σ)
    (ha : PA X (e :: es) t) (hdb : (x == ("__debug__" : Str)) = false := by decide) (he : starEach (e :: es) X.env = (false, eval e X.env) :: starEach es X.env := by rfl) (hpl : (backTo pos (starEach es X.env)).any (·.1) = false := by rfl) :
    PE X (.Call (.Name x p) (e :: es) [] pos) (tCallX sp dvs E t) := by
  intro pins s σ H Q I h
  refine wpAny_Call_Name_kw (ld_glob I hg hm ?_ hdb)
  refine PySem.W.callWith_K (h₀ := X.base) I.ok.mod.kin hk (thn (ha pos pins s σ H _ I h) fun us s1 ⟨vs, H1, I1, r, q⟩ => ⟨I1.kIn, ?_⟩) he hpl
  have r2 : Vals (vs ++ dvs) (us ++ ds) := r.append hd
  have hl : (us ++ ds).length = ps.length := by rw [← r2.length]; exact F.len _ _ _ _ q
  refine wpAny_call (codeAny_mono (F.run X.A X.stack s1 H1 ⟨us, []⟩ (us ++ ds) (vs ++ dvs) Q (E σ) hr I1.env0 (hb s1 us I1.kIn hl) r2 q) fun rr s' hq => ?_)
  cases rr with
  | error ev => exact hx σ pins H1 s1 ev s' I1 hq
  | ok fl =>
    cases fl with
    | ret u => exact I1.after hq
    | next => exact False.elim hq
    | brk => exact False.elim hq
    | cont => exact False.elim hq
set_option genInjectivity false in
structure ClsD where
  nm : Str
  q : Str
  N : Addr
  bs : List Value
  bm : List Value
  hdct : Bool
  sn : List Str
  sub : List Value
  ab : Bool
  col : Option Bool
  dd : Option Addr
  k0 : Option Value
  k1 : Option Value
  k2 : Option Value
  k3 : Option Value
  k5 : Option Value
def ownIn0 (K : PySem.W.Frag) (C : Addr) (z : Option Value) (bmB : List Value) (newId : String) : Bool := match K.lookup C with
  | some ⟨.type "type", _, .cls dat, slt⟩ => (match dat.mro, slt.toList with
    | .ref C' :: up, [_, _, _, _, some (.builtin n), _] => C' == C && n == newId && !dat.hasDel && PySem.W.tailIn K bmB up && PySem.W.nsOkIn K dat.ns && PySem.W.nsIn K dat.ns "__init__" == some z
    | _, _ => false)
  | _ => false
theorem cls_op {K : PySem.W.Frag} {C : Addr} {z : Option Value} (q0 : ownIn0 K C z [.type "ValueError", .type "Exception", .type "BaseException", .type "object"] "ValueError.__new__" = true) :
    ∃ c : ClsD, K.lookup C = some (excClassObj c.nm c.q C c.N c.bs c.bm c.hdct c.sn c.sub c.ab c.col c.dd c.k0 c.k1 c.k2 c.k3 c.k5 "ValueError.__new__") ∧ PySem.W.tailIn K [.type "ValueError", .type "Exception", .type "BaseException", .type "object"] c.bm = true ∧ PySem.W.nsOkIn K c.N = true ∧ PySem.W.nsIn K c.N "__init__" = some z := by
  unfold ownIn0 at q0
  split at q0
  · rename_i dd0 cdat slots0 look0
    split at q0
    · rename_i Cx0 tl0 g0 g1 g2 g3 nw g5 em es0
      simp only [Bool.and_eq_true, beq_iff_eq, Bool.not_eq_true'] at q0 <;> skip
      obtain ⟨⟨⟨⟨⟨rfl, rfl⟩, ndel⟩, tok⟩, nok⟩, noi⟩ := q0
      obtain ⟨c1, c2, c3, c4, c5, c6, c7, c8, c9, c10, c11⟩ := cdat
      dsimp only at em ndel nok noi
      subst em ndel
      obtain ⟨lst0⟩ := slots0
      have es1 : lst0 = [g0, g1, g2, g3, some (.builtin "ValueError.__new__"), g5] := es0
      subst es1
      exact ⟨⟨c1, c5, c4, c2, tl0, c6, c7, c8, c9, c10, dd0, g0, g1, g2, g3, g5⟩, look0, tok, nok, noi⟩
    · cases q0
  · cases q0
structure OwnE (K : PySem.W.Frag) (C : Addr) : Prop where
  ex : PySem.W.excIn K C [.type "ValueError", .type "Exception", .type "BaseException", .type "object"] "ValueError.__new__" = true
def tRaise (C : Addr) (E : St → XK) (t : TA) : TS := fun _ σ H => t σ H fun vs H1 => vs.length ≤ sizeLine ∧ E σ (.ref C) none H1
theorem ps_raise {C : Addr} {x : Str} {e₀ : Expr} {rest : List Expr} {np cpos pos : Pos} {t : TA} {E : St → XK} (hc : X.calm = true) (hg : Gl X x) (hmg : X.mg x = some (.ref C)) (O : OwnE X.K C) (hx : ∀ σ, RaisesAt X (E σ) σ) (ha : PA X (e₀ :: rest) t)
    (he : starEach (e₀ :: rest) X.env = (false, eval e₀ X.env) :: starEach rest X.env := by rfl) (hplain : (backTo cpos (starEach rest X.env)).any (·.1) = false := by rfl) (hdb : (x == ("__debug__" : Str)) = false := by decide) :
    PS X (.Raise (some (.Call (.Name x np) (e₀ :: rest) [] cpos)) none pos) (tRaise C E t) := by
  intro pins s σ H D I h
  obtain ⟨c, look0, tok, nok, noi⟩ := cls_op (z := none) O.ex
  have nsb : X.base.Ns c.N (X.base.nsMap c.N) := .of_isNs (PySem.W.isNs_of_in I.mod.kin nok)
  refine PySem.wpAny_Raise_call_subU (C := C) (nm := c.nm) (q := c.q) (N := c.N) (bs := c.bs) (bm := c.bm) (hdct := c.hdct) (sn := c.sn) (sub := c.sub) (ab := c.ab) (col := c.col) (dd := c.dd) (k0 := c.k0) (k1 := c.k1) (k2 := c.k2) (k3 := c.k3) (k5 := c.k5)
    PySem.F.excBase_ValueError (by decide +kernel) PySem.F.excBase_ValueError (mN := X.base.nsMap c.N) ((PySem.W.tail_of_in I.kIn tok).hasType (by decide +kernel)) (I.ok.hd hc) (by rw [he]; exact (Bool.false_or _).trans hplain) (PySem.W.nsMap_none_of_in I.mod.kin nok noi) (ld_glob I hg hmg ⟨rfl, ?_⟩ hdb)
  have hh := ha cpos pins s σ H _ I h
  rw [he] at hh ⊢
  exact Calls.evalArgs_plain (thn hh fun us s2 ⟨vs, H2, I2, r, hl, hE⟩ => ⟨rfl, by rw [← r.length]; exact hl, I2.kIn _ _ look0, nsb.keeps I2.bk, PySem.W.tail_of_in I2.kIn tok, fun h' e hm => hx σ pins H2 s2 h' e C us I2 hm hE⟩)
abbrev Cx.mark (X : Cx) (e : Addr) : Cx := { X with A := X.A.mark (some (.ref e)), calm := false, xe := fun _ _ => False }
theorem Inv.mark {pins : List (Addr × Obj)} {σ : St} {H : Hp} {s : Shared} (I : Inv X pins σ H s) (e : Addr) : Inv (X.mark e) pins σ H s :=
  ⟨⟨I.ok.mod, I.ok.kind, I.ok.glob, I.ok.blt, I.ok.above, I.ok.inj, I.ok.has, I.ok.cab, (fun z => by cases z), I.ok.frames, I.ok.stk, I.ok.exf, I.ok.bs, I.ok.bsz, I.ok.noex, I.ok.exfs, I.ok.funs, I.ok.frf⟩, I.os, I.bare, I.base, I.loc, I.cell, I.free, I.freeC, I.pin, I.hok, I.len⟩
theorem Inv.unmark {pins : List (Addr × Obj)} {σ : St} {H : Hp} {s : Shared} {e : Addr} (ok : X.Ok) (I : Inv (X.mark e) pins σ H s) : Inv X pins σ H s :=
  ⟨ok, I.os, I.bare, I.base, I.loc, I.cell, I.free, I.freeC, I.pin, I.hok, I.len⟩
end
end L2
set_option Elab.async false
set_option linter.all false
set_option maxRecDepth 100000
set_option maxHeartbeats 4000000
namespace L2
open PySem PySem.Spec PyProof.Rows
structure FunX (K : PySem.W.Frag) (x qual : Str) (st : Stmt) (f : Addr) (fd : FuncData) : Prop where
  ex : ∃ (oc : Value) (od : Option Addr) (dV kV doc pm : Value) (an : Option Addr) (cdv ct : Value) (osl : Array (Option Value)),
    fd = PySem.W.fnOf x qual (defArgs st) (defBody st) (defScope st) dV kV doc pm an cdv ct ∧ K.lookup f = some ⟨oc, od, .func fd, osl⟩ ∧ PySem.W.codeIn K cdv qual = true
  kp : PySem.W.keepIn K (.ref f) = true
section
variable {P : Program} {w : World} {K : PySem.W.Frag} {mg : Str → Option Value} {base : Heap}
theorem FunX.ok {CX : CXT} {x qual : Str} {st : Stmt} {f : Addr} {fd : FuncData} {N ps : List Str} {k : Nat} {sp : Sp} (F : FunX K x qual st f fd) (S : FnScope N ps (defScope st)) (len : ∀ vs H Q E, sp vs H Q E → vs.length = ps.length)
    (hbody : ∀ (cdv : Value) (A : Around) (outer : List Env) (s : Shared) (H : Hp) (vs : List V) (Q : VK) (E : XK), Room k (A.deeper (envOfC qual (defScope st) s.heap.objs.size f cdv)) → sp vs H Q E →
      ∃ t, PSs (cxOf CX P w K mg base N qual (defScope st) f cdv A outer s H E) (defBody st) t ∧ t { nx := fun _ H' => Q .non H', rt := Q } (start N vs) H) : FnOk P w K mg base CX (k + 1) f fd ps sp := by
  obtain ⟨oc, od, dV, kV, doc, pm, an, cdv, ct, osl, rfl, lk, hcd⟩ := F.ex
  exact fn_of lk hcd S len fun A outer s H vs Q E hr hsp => hbody cdv A outer s H vs Q E hr hsp
theorem funX_mk {x qual : Str} {st : Stmt} {f : Addr} {oc : Value} {od an : Option Addr} {osl : Array (Option Value)} {dV kV doc pm cdv ct : Value} (l : K.lookup f = some ⟨oc, od, .func (PySem.W.fnOf x qual (defArgs st) (defBody st) (defScope st) dV kV doc pm an cdv ct), osl⟩)
    (c : PySem.W.codeIn K cdv qual = true) (k : PySem.W.keepIn K (.ref f) = true) : FunX K x qual st f (PySem.W.fnOf x qual (defArgs st) (defBody st) (defScope st) dV kV doc pm an cdv ct) := ⟨⟨oc, od, dV, kV, doc, pm, an, cdv, ct, osl, rfl, l, c⟩, k⟩
end
end L2
set_option Elab.async false
set_option linter.all false
set_option maxRecDepth 100000
set_option maxHeartbeats 4000000
namespace L2
open PySem PySem.Spec PyProof.Rows PySem.W
structure ECls (K : PySem.W.Frag) (C : Addr) : Prop where
  ga : PySem.W.findIn K (.ref C) "__getattribute__" = some (some (.builtin "BaseException.__getattribute__"))
  no : PySem.W.findIn K (.ref C) "__getattr__" = some none
  mb : PySem.W.mroIn K C (.type "BaseException") = some true
  mo : PySem.W.mroIn K C (.type "object") = some true
  cl : PySem.W.findIn K (.ref C) "__class__" = some (some (.builtin "object.__class__"))
  sp : PySem.W.specialIn K (.builtin "object.__class__") "__get__" = some (some (.builtin "getset_descriptor.__get__"))
  tk : PySem.W.takesIn K (.builtin "object.__class__") = some true
  hd : PySem.W.hasDictIn K C = true
section
variable {prog : Program} {w : World} {A : Around} {E : Value → Shared → Prop} {s : Shared} {K : PySem.W.Frag} {x C : Addr} {ox : Obj} {od : Option Obj} {name : Str}
theorem exc_check {M : Model} {nameV : Value} {Q : Unit → Shared → Prop} (c : ECls K C) (X : K.In s.heap) (I : InstAt s.heap x ox C od) (hq : Q () s) : wpAny M A (checkBuiltinCall "BaseException.__getattribute__" ⟨[.ref x, nameV], []⟩) Q E s := by
  have hk : builtinKind "BaseException.__getattribute__" = some .slot := by decide +kernel
  have hsplit : splitId "BaseException.__getattribute__" = some ("BaseException", "__getattribute__") := by decide +kernel
  have ha := F.args_bexc_ga (.ref x) nameV
  have L0 := I.type (M := M)
  have L1 := looks_mroIn (M := M) X c.mb
  obtain ⟨hh, g, d, t, os⟩ := s
  simp only [checkBuiltinCall, hk, hsplit]
  have LI : Looks M hh (isInstance (.ref x) (.type "BaseException")) true := L0.andThen L1
  refine wpAny_bind (LI.at ?_)
  first | exact hq | exact wpAny_pure hq | (simp only [Bool.not_true, Bool.false_eq_true, if_false]; exact hq)
def FinP (M : Model) (A : Around) (P : Value → Shared → Prop) (fin : PySem.Fin) (s : Shared) : Prop := match fin with
  | .done (.ret v) => P v s
  | .again c => c.quiet = true ∧ codeAny M A c (fun r s' => match r with | .ok (.ret v) => P v s' | _ => False) s
  | _ => False
theorem exc_get? {Q : Option Value → Shared → Prop} (c : ECls K C) (X : K.In s.heap) (I : InstAt s.heap x ox C od)
    (h : ∀ A' : Around, wpAny (model prog w) A' (Builtin.«object.__getattribute__» ⟨[.ref x, .str name s.toks], []⟩) (FinP (model prog w) A fun v s' => wpAny (model prog w) A (handedOut v) (fun v s'' => Q (some v) s'') (fun _ _ => False) s') (fun _ _ => False) { s with toks := s.toks + 1 }) :
    wpAny (model prog w) A (getAttr? (.ref x) name) Q E s := by
  obtain ⟨hh, g, d, t, os⟩ := s
  have L0 := I.type (M := model prog w)
  have L1 := looks_findIn (M := model prog w) X c.ga
  have L2 := looks_findIn (M := model prog w) X c.no
  unfold getAttr? getAttrBy? getAttrBy
  refine wpAny_bind (wpAny_mkText (wpAny_bind (wpAny_attempt (wpAny_holding (wpAny_bind (L0.at (wpAny_bind (L1.at ?_))))))))
  show wpAny _ _ (getAttrByItsOwn _ _ _ _ _ _) _ _ _
  unfold getAttrByItsOwn
  show wpAny _ _ (do let before ← typeLookup (.ref C) "__getattr__"; _) _ _ _
  refine wpAny_bind (L2.at (wpAny_bind (wpAny_attempt (wpAny_holding ?_))))
  unfold callGetattribute
  rw [if_neg (by simp)]
  unfold boundAndCalled
  rw [F.attr_ValueError.ga.bind (.ref x)]
  refine wpAny_bind (wpAny_pure (wpAny_call (codeAny_call_builtin F.attr_ValueError.ga.plain F.entry_bexc_ga (exc_check c X I ?_))))
  have fin1 : ∀ v s', wpAny (model prog w) A (handedOut v) (fun v s'' => Q (some v) s'') (fun _ _ => False) s' → wpAny (model prog w) A (handedOut v) (fun a s' => wpAny (model prog w) A (pure (some a)) Q E s') (fun e s' => wpAny (model prog w) A (do if ← isInstance e (.type "AttributeError") then pure none else throw e) Q E s') s' := fun v s' z => wpAny_mono z (fun _ _ q => wpAny_pure q) fun _ _ q => q.elim
  refine wpAny_mono (h _) (fun fin s' z => ?_) fun _ _ z => z.elim
  cases fin with
  | done f => cases f with
    | ret v => exact fin1 v s' z
    | _ => exact z.elim
  | again c' =>
    obtain ⟨z1, z2⟩ := z
    refine ⟨z1, codeAny_mono z2 fun r s'' q => ?_⟩
    cases r with
    | error e => exact q.elim
    | ok f => cases f with
      | ret v => exact fin1 v s'' q
      | _ => exact q.elim
theorem findObj_data' {a g : Value} (hc : (clsIn K C).isSome = true) (ha : findIn K (.ref C) name = some (some a)) (hg : specialIn K a "__get__" = some (some g)) (ht : takesIn K a = some true) : findObj K C od name = some (.bind g a) := by
  obtain ⟨cd, hc⟩ := Option.isSome_iff_exists.mp hc
  unfold findObj
  rw [hc, Option.bind_some, ha, Option.bind_some]
  simp [hg, ht]
theorem ECls.some (c : ECls K C) : (clsIn K C).isSome = true := by
  obtain ⟨cd, hc, _⟩ := any_some c.hd
  rw [hc]; rfl
theorem exc_class {Q : Option Value → Shared → Prop} (c : ECls K C) (X : K.In s.heap) (I : InstAt s.heap x ox C od) (hq : Q (some (.ref C)) { s with toks := s.toks + 1 }) : wpAny (model prog w) A (getAttr? (.ref x) "__class__") Q E s := by
  have hf : findObj K C od "__class__" = some (.bind (.builtin "getset_descriptor.__get__") (.builtin "object.__class__")) := findObj_data' c.some c.cl c.sp c.tk
  refine exc_get? c X I fun A' => ?_
  have L0 := I.type (M := model prog w)
  have L1 := looks_find (M := model prog w) X I hf
  have cg : ∀ {A : Around} {R : Result → Shared → Prop}, R (.ok (.ret (.ref C))) { s with toks := s.toks + 1 } → codeAny (model prog w) A (.call (.builtin "getset_descriptor.__get__") ⟨[.builtin "object.__class__", .ref x, .ref C], []⟩) R { s with toks := s.toks + 1 } := fun h => class_get (s := { s with toks := s.toks + 1 }) (ox := ox) (od := od) X I c.mo h
  obtain ⟨hh, gg, d, t, os⟩ := s
  refine wpAny_bind (wpAny_pure (wpAny_bind (wpAny_pure (wpAny_bind (L0.at (wpAny_bind (L1.at ?_)))))))
  show wpAny _ _ (do ret (← holding [.builtin "object.__class__"] (call (.builtin "getset_descriptor.__get__") [.builtin "object.__class__", .ref x, .ref C]))) _ _ _
  exact wpAny_bind (wpAny_holding (wpAny_call (cg (wpAny_pure (show FinP _ _ _ (.done (.ret (.ref C))) _ from handed_on rfl hq)))))
theorem kitx_exc (c : ECls K C) : KitX K (.ref x) (.ref C) (fun h => InstAt h x ox C od) where
  ty := fun _ _ _ I => I.type
  it := fun _ _ X _ => by
    obtain ⟨cdD, hcD, _⟩ := any_some c.hd
    unfold clsIn at hcD
    split at hcD
    · rename_i c' d' cd' sl' ho
      intro A' Q' E' s' k q
      unfold isType loadHead
      exact wpAny_bind (wpAny_loadPart (k _ _ (X _ _ ho)) (wpAny_pure q))
    · cases hcD
  ne := fun h tp dd its n sl X htp => by
    obtain ⟨cdD, hcD, _⟩ := any_some c.hd
    refine Bool.eq_false_iff.mpr fun q => ?_
    have e : C = tp := Value.ref.inj (beq_iff_eq.mp q)
    subst e
    unfold clsIn at hcD
    split at hcD
    · rename_i c' d' cd' sl' ho
      have z := (X _ _ ho).symm.trans htp
      cases z
    · cases hcD
  ca := fun X I k => exc_class c X I k
end
end L2
set_option Elab.async false
set_option linter.all false
set_option maxRecDepth 100000
set_option maxHeartbeats 4000000
namespace L2
open PySem PySem.Spec PyProof.Rows
def excO (oe : Obj) : HO := .frz oe (.ext fun _ => True)
structure NewAt (X : Cx) (pins : List (Addr × Obj)) (e : Addr) : Prop where
  s0 : X.s₀.heap.get? e = none
  loc : e ≠ X.env.locals
  cel : ∀ x c, X.env.cells.lookup x = some c → c ≠ e
  fs : e ∉ X.fs
  pin : ∀ p ∈ X.pn ++ pins, p.1 ≠ e
section
variable {X : Cx}
theorem NewAt.of {pins : List (Addr × Obj)} {σ : St} {H : Hp} {s : Shared} {e : Addr} (I : Inv X pins σ H s) (hx : X.ex = []) (h : s.heap.get? e = none) : NewAt X pins e where
  s0 := by
    cases q : X.s₀.heap.get? e with
    | none => rfl
    | some o =>
      obtain ⟨o', z⟩ := I.base.there e o q (by rw [hx]; simp)
      rw [h] at z; cases z
  loc := fun z => by
    obtain ⟨m, ⟨o, _, _, q, _⟩, _⟩ := I.loc
    rw [← z, h] at q; cases q
  cel := fun x c q z => by
    obtain ⟨v, o, r, _⟩ := I.cell x c q
    rw [z, h] at r; cases r
  fs := fun z => by
    obtain ⟨_, o, q, _⟩ := I.funs.mem z
    rw [h] at q; cases q
  pin := fun p hp z => by
    have q := (I.pin p hp).1
    rw [z, h] at q; cases q
theorem Inv.track {pins : List (Addr × Obj)} {σ : St} {H : Hp} {s : Shared} {e : Addr} {oe : Obj} (I : Inv X pins σ H s) (N : NewAt X pins e) (he : s.heap.get? e = some oe) (hn : H e = none) : Inv X pins σ (upd H e (excO oe)) s := by
  have ne : ∀ {b : Addr} {o : HO}, H b = some o → b ≠ e := fun q z => by rw [z, hn] at q; cases q
  refine ⟨I.ok, I.os, I.bare, ⟨I.base.keep, I.base.slot, fun b o q n hx => ?_, I.base.there, fun b xs q => ?_, fun b o u q => ?_, fun b ps q => ?_⟩, I.loc, I.cell, ?_, fun x c q => ?_, fun p hp => ?_, fun b o q => ?_, I.len⟩
  · rw [upd_ne (fun z => by rw [z, N.s0] at q; cases q)]; exact I.base.free b o q n hx
  · have z := I.base.tups b xs q; rw [upd_ne (ne z)]; exact z
  · have z := I.base.frzs b o u q; rw [upd_ne (ne z)]; exact z
  · obtain ⟨m, z⟩ := I.base.tbls b ps q; exact ⟨m, by rw [upd_ne (ne z)]; exact z⟩
  · rw [upd_ne (Ne.symm N.loc)]; exact I.free
  · rw [upd_ne (N.cel x c q)]; exact I.freeC x c q
  · obtain ⟨a, b, c, d, f⟩ := I.pin p hp
    exact ⟨a, by rw [upd_ne (N.pin p hp)]; exact b, c, d, f⟩
  · by_cases hb : b = e
    · subst hb
      rw [upd_same] at q
      cases q
      exact ⟨he, trivial, ⟨oe, he⟩, fun _ _ _ _ => trivial⟩
    · rw [upd_ne hb] at q
      exact (I.hok b o q).stay (fun _ _ _ r => r) (fun c r => by rw [upd_ne (ne r)]; exact r) fun c xs r => by rw [upd_ne (ne r)]; exact r
def PHs (X : Cx) (hs : List ExceptHandler) (th : Value → Option Addr → TS) : Prop :=
  ∀ (pins : List (Addr × Obj)) (s : Shared) (σ : St) (H : Hp) (D : Ends) (e T : Addr) (cls : Value) (d : Option Addr), Inv X pins σ H s → NewAt X pins e → H e = none → ExcAt s.heap e cls d T → th cls d D σ H → wpAny (model X.prog X.w) X.A (handleBy (.ref e) X.env hs) (SP X pins D) X.xe s
theorem flight1 {M : Model} {A : Around} {E : Value → Shared → Prop} {s : Shared} {e T : Addr} {cls : Value} {d : Option Addr} {Q : Unit → Shared → Prop} (x : ExcAt s.heap e cls d T) (hQ : ∀ h', (∀ b o, s.heap.get? b = some o → h'.get? b = some o) → Q () { s with heap := h' }) :
    wpAny M A (setFlight (.ref e) none) Q E s := by
  obtain ⟨oe, vs, oT, ts, he, rfl, rfl, hd, h1, ne, hT, hdT, h3⟩ := x
  unfold setFlight
  refine wpAny_bind (wpAny_field he hd h1 ?_)
  rw [if_pos (show (Value.ref T != Value.none) = true from by simp)]
  refine wpAny_setField hT hdT (Array.getElem?_eq_some_iff.mp h3).1 (hQ _ fun b o q => ?_)
  by_cases hb : b = T
  · subst hb
    rw [hT] at q; cases q
    have same : Obj.mapFields (·.setIfInBounds 3 ((none : Option Addr).elim Value.none fun f => rawInt f)) oT = oT := by
      obtain ⟨c, d, dat, sl⟩ := oT
      cases hdT
      have e3 : ts.setIfInBounds 3 ((none : Option Addr).elim Value.none fun f => rawInt f) = ts := by
        apply Array.ext_getElem?
        intro i
        by_cases hi : i = 3
        · subst hi
          obtain ⟨hlt, hv⟩ := Array.getElem?_eq_some_iff.mp h3
          simp [Array.getElem?_setIfInBounds, hlt, hv]
        · rw [Array.getElem?_setIfInBounds_ne (Ne.symm hi)]
      show (⟨c, d, .fields (ts.setIfInBounds 3 ((none : Option Addr).elim Value.none fun f => rawInt f)), sl⟩ : Obj) = _
      rw [e3]
    have := Heap.get?_update_self (Obj.mapFields (·.setIfInBounds 3 ((none : Option Addr).elim Value.none fun f => rawInt f))) hT (Obj.isFreed_of_fields (Obj.data_mapFields hdT _))
    rw [same] at this
    exact this
  · rw [Heap.get?_update_other _ _ (Ne.symm hb)]
    exact q
def tLost : Value → Option Addr → TS := fun _ _ _ _ _ => False
theorem phs_nil : PHs X [] tLost := fun _ _ _ _ _ _ _ _ _ _ _ _ _ h => h.elim
theorem SP.unmark {pins : List (Addr × Obj)} {D : Ends} {f : Flow} {s2 : Shared} {e : Addr} (ok : X.Ok) (q : SP (X.mark e) pins D f s2) : SP X pins D f s2 := by
  cases f with
  | next => obtain ⟨σ', H', J, q⟩ := q; exact ⟨σ', H', J.unmark ok, q⟩
  | brk => obtain ⟨σ', H', J, q⟩ := q; exact ⟨σ', H', J.unmark ok, q⟩
  | cont => obtain ⟨σ', H', J, q⟩ := q; exact ⟨σ', H', J.unmark ok, q⟩
  | ret u => obtain ⟨v, σ', H', J, r, q⟩ := q; exact ⟨v, σ', H', J.unmark ok, r, q⟩
theorem exc_ty {M : Model} {h : Heap} {e T : Addr} {cls : Value} {d : Option Addr} (ex : ExcAt h e cls d T) : PySem.W.Looks M h (typeOf (.ref e)) cls := by
  obtain ⟨oe, vs, oT, ts, he, rfl, _⟩ := ex
  exact (PySem.W.Looks.ld he).andThen .now
def gDel (i : Nat) : St → Hp → (St → Hp → Prop) → Prop := fun σ H Q => Q (σ.set i none) H
def kDel (i : Nat) (nx : St → Hp → Prop) : St → Hp → Prop := fun σ H => gDel i σ H nx
def Ends.del (i : Nat) (D : Ends) : Ends := ⟨kDel i D.nx, D.rt, kDel i D.bk, kDel i D.ct⟩
theorem gone_ok {M : Model} {A : Around} {E : Value → Shared → Prop} {pins : List (Addr × Obj)} {σ : St} {H : Hp} {s : Shared} {i : Nat} {x : Str} {pos : Pos} {Q : Unit → Shared → Prop} (I : Inv X pins σ H s) (hi : X.N[i]? = some x) (hk : X.env.scope.names.lookup x = some .local) (hN : X.N.Nodup)
    (h : ∀ s', Inv X pins (σ.set i none) H s' → Q () s') : wpAny M A (do bindName X.env x .none; unbindBehindTheSuite X.env x pos) Q E s := by
  obtain ⟨m, hn, hl⟩ := id I.loc
  have hcls : (X.env.scope.kind == .class || (X.env.scope.kind == .module && X.env.locals != X.env.globals)) = false := by rw [I.ok.kind]; rfl
  have cne := I.cne
  refine PySem.wpAny_nameGoes_keeps hk hn hcls fun h' v hn' hs => ?_
  obtain ⟨oL, _, _, hoL, _⟩ := id hn
  refine h _ ⟨I.ok, I.os, I.bare, ⟨fun b o e n hb hx => ?_, fun b o e n hb hx => ?_, I.base.free, fun b o e hx => ?_, I.base.tups, I.base.frzs, I.base.tbls⟩, ⟨_, hn', fun j y v' e1 e2 e3 => ?_⟩, fun y c e => ?_, I.free, I.freeC, fun p hp => ?_, fun b ob e => ?_, by simpa using I.len⟩
  · exact (hs.2 b (Nat.ne_of_lt (Nat.lt_of_lt_of_le (Heap.lt_size e) I.ok.above))).trans (I.base.keep b o e n hb hx)
  · obtain ⟨sl, e1⟩ := I.base.slot b o e n hb hx
    exact ⟨sl, (hs.2 b (Nat.ne_of_lt (Nat.lt_of_lt_of_le (Heap.lt_size e) I.ok.above))).trans e1⟩
  · obtain ⟨o', e1⟩ := I.base.there b o e hx
    exact ⟨o', (hs.2 b (Nat.ne_of_lt (Nat.lt_of_lt_of_le (Heap.lt_size e) I.ok.above))).trans e1⟩
  · have hj : j ≠ i := by
      rintro rfl
      by_cases hlt : j < σ.length
      · rw [List.getElem?_set_self hlt] at e2; cases e2
      · rw [List.getElem?_eq_none (by simpa using Nat.le_of_not_lt hlt)] at e2; cases e2
    rw [List.getElem?_set_ne (Ne.symm hj)] at e2
    obtain ⟨u', r', q⟩ := hl j y v' e1 e2 e3
    refine ⟨u', r', ?_⟩
    rcases q with ⟨k, e⟩ | ⟨k, c, e, z⟩
    · refine .inl ⟨k, ?_⟩
      have : y ≠ x := fun e => hj (nodup_ix hN e1 (e ▸ hi))
      simp [this, e]
    · exact .inr ⟨k, c, e, z.sameBut hs (cne y c e)⟩
  · obtain ⟨w', z⟩ := I.cell y c e
    exact ⟨w', z.sameBut hs (cne y c e)⟩
  · obtain ⟨e, n, ne, nf, d⟩ := I.pin p hp
    exact ⟨(hs.2 p.1 ne).trans e, n, ne, nf, d⟩
  · refine (I.hok b ob e).stay (fun c w' hc q => (hs.2 c ?_).trans q) (fun _ q => q) fun _ _ q => q
    rintro rfl
    rcases hc with rfl | hc
    · rw [I.free] at e; cases e
    · rw [I.free] at hc; cases hc
def tExcAs (K : PySem.W.Frag) (C : Value) (i : Nat) (tb : TS) (tr : Value → Option Addr → TS) : Value → Option Addr → TS := fun cls d D σ H => ∃ b, PySem.W.exmOne K cls C = some b ∧
  if b = true then ∀ (e : Addr) (oe : Obj), H e = none → oe.cls = cls → oe.dict = d → (∃ vs, oe.data = .fields vs) → tb (D.del i) (σ.set i (some (.ref e))) (upd H e (excO oe)) else tr cls d D σ H
theorem phs_as {x n : Str} {i : Nat} {np pos : Pos} {b₀ : Stmt} {body : List Stmt} {rest : List ExceptHandler} {C : Value} {tb : TS} {tr : Value → Option Addr → TS} (hN : X.N.Nodup) (hi : X.N[i]? = some n) (hk : X.env.scope.names.lookup n = some .local) (hg : Gl X x) (hm : X.mg x = some C ∨ (X.mg x = none ∧ bootBuiltins x = some C ∧ x ≠ "__name__")) (hb : ∀ e, PSs (X.mark e) (b₀ :: body) tb) (hr : PHs X rest tr)
    (hdb : (x == ("__debug__" : Str)) = false := by decide) : PHs X (.ExceptHandler (some (.Name x np)) (some n) (b₀ :: body) pos :: rest) (tExcAs X.K C i tb tr) := by
  intro pins s σ H D e T cls d I N hn ex h
  obtain ⟨b, hx, h⟩ := h
  have Im := I.mark e
  have ld : ∀ {Q : Value → Shared → Prop} {E : Value → Shared → Prop}, Q C s → wpAny (model X.prog X.w) (X.A.mark (some (.ref e))) (eval (.Name x np) X.env) Q E s := fun {Q E} q => by
    rcases hm with z | ⟨z1, z2, z3⟩
    · exact ld_glob (X := X.mark e) Im hg z q hdb
    · exact ld_blt (X := X.mark e) Im hg z1 z2 q z3 hdb
  refine PySem.wpAny_handleBy_cons (PySem.codeAny_handlers_test (ld ((PySem.W.exm_one I.kIn (exc_ty ex) hx).here ?_))) (by intro q; cases q)
  cases b with
  | false =>
    rw [if_neg Bool.false_ne_true] at h
    exact hr pins s σ H D e T cls d I N hn ex h
  | true =>
    rw [if_pos rfl] at h
    refine PySem.codeAny_handlers_suite_as (flight1 ex fun h' kp => ?_)
    obtain ⟨oe, vs, oT, ts, he, hc, hd, hdat, _⟩ := ex
    have N' : NewAt (X.mark e) pins e := ⟨N.s0, N.loc, N.cel, N.fs, N.pin⟩
    have I' : Inv (X.mark e) pins σ (upd H e (excO oe)) { s with heap := h' } := (Im.kept (t' := s.toks) kp).track N' (kp _ _ he) hn
    refine store_ok (X := X.mark e) I' hN hi (.inl hk) (show RelV (.ref e) (.ref e) from rfl) (fun s1 I1 => ?_) (.inr hk)
    refine wpAny_mono (hb e pins s1 _ _ (D.del i) I1 (h e oe hn hc hd ⟨vs, hdat⟩)) (fun f s2 q => ?_) fun _ _ z => z.elim
    show wpAny _ X.A _ _ _ s2
    have q' := SP.unmark I.ok q
    cases f with
    | next => obtain ⟨σ', H', J, q⟩ := q'; exact gone_ok J hi hk hN fun s3 J3 => ⟨_, H', J3, q⟩
    | brk => obtain ⟨σ', H', J, q⟩ := q'; exact gone_ok J hi hk hN fun s3 J3 => ⟨_, H', J3, q⟩
    | cont => obtain ⟨σ', H', J, q⟩ := q'; exact gone_ok J hi hk hN fun s3 J3 => ⟨_, H', J3, q⟩
    | ret u => obtain ⟨v, σ', H', J, r, q⟩ := q'; exact gone_ok J hi hk hN fun s3 J3 => ⟨v, _, H', J3, r, q⟩
def tTry (tb : (St → XK) → TS) (th : Value → Option Addr → TS) : TS := fun D σ H => tb (fun σ' cls d H' => th cls d D σ' H') D σ H
abbrev Cx.tried (X : Cx) (E : Value → Shared → Prop) (pn : List (Addr × Obj)) : Cx := { X with xe := E, pn := pn }
theorem ps_try {body : List Stmt} {h₀ : ExceptHandler} {hs : List ExceptHandler} {pos : Pos} {tb : (St → XK) → TS} {th : Value → Option Addr → TS} (hstk : X.stack = X.env :: X.outer ∧ X.env.frame = some X.env.locals ∧ X.ex = [])
    (hb : ∀ (EX : St → XK) (E : Value → Shared → Prop) (pn : List (Addr × Obj)), (∀ σ, PassAt (CX1 X.prog X.w) (X.tried E pn) (EX σ) σ) → PSs (X.tried E pn) body (tb EX)) (hh : PHs X (h₀ :: hs) th) :
    PS X (.Try body (h₀ :: hs) [] [] pos) (tTry tb th) := by
  intro pins s σ H D I h
  refine PySem.wpAny_Try_except ?_
  have okT : ∀ E pn, (X.tried E pn).Ok := fun E pn => ⟨I.ok.mod, I.ok.kind, I.ok.glob, I.ok.blt, I.ok.above, I.ok.inj, I.ok.has, I.ok.cab, I.ok.hd, I.ok.frames, I.ok.stk, I.ok.exf, I.ok.bs, I.ok.bsz, I.ok.noex, I.ok.exfs, I.ok.funs, I.ok.frf⟩
  have back : ∀ {E : Value → Shared → Prop} {pins' : List (Addr × Obj)} {σ' : St} {H' : Hp} {s' : Shared}, Inv (X.tried E (X.pn ++ pins)) pins' σ' H' s' → Inv X pins σ' H' s' := fun {E pins' σ' H' s'} J =>
    ⟨I.ok, J.os, J.bare, J.base, J.loc, J.cell, J.free, J.freeC, fun p hp => J.pin p (List.mem_append_left _ hp), J.hok, J.len⟩
  have I0 : ∀ E, Inv (X.tried E (X.pn ++ pins)) [] σ H s := fun E => ⟨okT E _, I.os, I.bare, I.base, I.loc, I.cell, I.free, I.freeC, fun p hp => I.pin p (by simpa using hp), I.hok, I.len⟩
  refine thn (hb (fun σ' cls d H' => th cls d D σ' H') _ (X.pn ++ pins) ?_ [] s σ H D (I0 _) h) fun f s1 q => ?_
  · intro σ1 pins1 H1 s1 ev s2 I1 hc
    obtain ⟨e, T, cls, dd, H', rfl, os, bare, un1, hok, ne, nT, He, HT, ex, hxd, hE⟩ := hc
    have I2 := I1.call' (ch := []) os un1 hok bare (fun b z => absurd z (by simp))
    have nf : ∀ b, s1.heap.get? b = none → b ∉ frs (X.env :: X.outer) := fun b hb z => by
      have st := I1.stack
      have st' : s1.heap.FunFrames X.base (X.env :: X.outer) := by rw [← hstk.1]; exact st
      obtain ⟨_, o, q, _⟩ := st'.mem z
      rw [hb] at q; cases q
    have nb : X.base.get? T = none := by
      cases q : X.base.get? T with
      | none => rfl
      | some o =>
        have := I1.bk T o q
        rw [nT] at this; cases this
    have fl : s2.heap.FunFrames X.base (X.env :: X.outer) := by rw [← hstk.1]; exact I2.stack
    have fr : X.A.frames = some (X.env :: X.outer) := by rw [← hstk.1]; exact I.ok.frames
    refine note_next (base := X.base) (outer := X.outer) fr fl hstk.2.1 ex (nf e ne) (nf T nT) nb fun g T' ng nT' ex' => ?_
    have fs : ∀ b ∈ frs (X.env :: X.outer), b ∈ frs X.stack := fun b hb => by rw [hstk.1]; exact hb
    have I3 := I1.call' (s' := { s2 with heap := g }) (ch := []) os (un1.noted ng ne (fun b z => by rw [z]; exact nT) fun b hb => .inl (fs b hb)) (hok.noted ng He (fun b z => by rw [z]; exact HT) fun b hb => I2.stkFree b (fs b hb)) bare (fun b z => absurd z (by simp))
    exact hh pins _ σ1 H' D e T' cls dd (back I3) (NewAt.of (back I1) hstk.2.2 ne) He ex' hE
  · cases f with
    | next => obtain ⟨σ', H', J, q⟩ := q; exact wpAny_execs_nil ⟨σ', H', back J, q⟩
    | brk => obtain ⟨σ', H', J, q⟩ := q; exact ⟨σ', H', back J, q⟩
    | cont => obtain ⟨σ', H', J, q⟩ := q; exact ⟨σ', H', back J, q⟩
    | ret u => obtain ⟨v, σ', H', J, r, q⟩ := q; exact ⟨v, σ', H', back J, r, q⟩
def kXd : HO → Prop := fun o => match o with
  | .xd _ => True
  | _ => False
def dictO (H : Hp) : Option Addr → Prop
  | none => True
  | some dx => ∃ o, H dx = some o ∧ kXd o
theorem call_isiE : CallR X (.builtin "isinstance") (fun xs H Q => ∃ e oe C D b, xs = [.ref e, D] ∧ (∃ u, H e = some (.frz oe u)) ∧ oe.cls = .ref C ∧ dictO H oe.dict ∧ (∃ vs, oe.data = .fields vs) ∧ ECls X.K C ∧ (∃ u, RelV D u ∧ PySem.W.kitOne X.K (.ref C) u = some b) ∧ Q (.bl b) H) := by
  intro pins s σ H xs us Q I r h
  obtain ⟨e, oe, C, D, b, rfl, ⟨uu, hH⟩, hc, hd, ⟨vs, hv⟩, ec, ⟨u, ru, hk⟩, q⟩ := h
  obtain ⟨u1, u2, rfl, r1, r2⟩ := vals2 r
  cases (show u1 = Value.ref e from r1)
  have hu : u2 = u := by
    cases D with
    | ref a => exact (show u2 = Value.ref a from r2).trans (show u = Value.ref a from ru).symm
    | ty n => exact (show u2 = Value.type n from r2).trans (show u = Value.type n from ru).symm
    | non => exact (show u2 = Value.none from r2).trans (show u = Value.none from ru).symm
    | bl b' => exact (show u2 = Value.bool b' from r2).trans (show u = Value.bool b' from ru).symm
    | int i => obtain ⟨t, rfl⟩ := ru; simp [PySem.W.kitOne, PySem.W.kitCls] at hk
    | str i => obtain ⟨t, rfl⟩ := ru; simp [PySem.W.kitOne, PySem.W.kitCls] at hk
    | byt i => obtain ⟨t, rfl⟩ := ru; simp [PySem.W.kitOne, PySem.W.kitCls] at hk
    | flt i => obtain ⟨t, rfl⟩ := ru; simp [PySem.W.kitOne, PySem.W.kitCls] at hk
  subst hu
  obtain ⟨he, _⟩ := (show ObjOk X.prog X.w H s.heap e (.frz oe uu) from I.hok e _ hH)
  have hno : PySem.W.notCls oe = true := by unfold PySem.W.notCls; rw [hv]
  cases q0 : oe.dict with
  | none =>
    have J : PySem.W.InstAt s.heap e oe C none := ⟨he, hc, hno, by rw [q0]; trivial⟩
    exact PySem.W.kia_one (kitx_exc ec) I.kIn J hk (fun z => nomatch z) fun tk => ⟨.bl b, H, I.tok _, rfl, q⟩
  | some dx =>
    rw [q0] at hd
    obtain ⟨o, ho, hx⟩ := hd
    cases o with
    | xd fs =>
      obtain ⟨mA, hn, _⟩ := I.hok dx _ ho
      obtain ⟨oD, hoD, _⟩ := lookIn_ns hn
      have J : PySem.W.InstAt s.heap e oe C (some oD) := ⟨he, hc, hno, by rw [q0]; exact hoD⟩
      exact PySem.W.kia_one (kitx_exc ec) I.kIn J hk (fun z => nomatch z) fun tk => ⟨.bl b, H, I.tok _, rfl, q⟩
    | _ => exact hx.elim
end
end L2
set_option Elab.async false
set_option linter.all false
set_option maxRecDepth 100000
set_option maxHeartbeats 4000000
namespace L2
open PySem PySem.Spec PyProof.Rows PySem.W
def excInI (K : Frag) (C fI : Addr) (bmB : List Value) (newId : String) : Bool := ownIn0 K C (some (.ref fI)) bmB newId
section
variable {prog : Program} {w : World} {A : Around} {R : Result → Shared → Prop} {h : Heap} {g : Array GenState} {d : Drawn} {t : Nat} {os : OsState} {K : Frag}
variable {nm q : Str} {C N fI : Addr} {bs bm bmB : List Value} {hdct : Bool} {sn : List Str} {sub : List Value} {ab : Bool} {col : Option Bool} {dd : Option Addr} {k0 k1 k2 k3 k5 : Option Value} {B Bn newId nid initId inN : String} {bmN : List Value}
abbrev exNew (C : Addr) (rest : List Value) (h : Heap) : Heap := (h.push { cls := .type "tuple", data := .seq rest.toArray }).push { cls := .ref C, data := .fields #[.ref h.objs.size, .none, .none, .none, .bool false, .none] }
theorem exc_own (Fn : ExcBaseFacts Bn newId inN bmN) (hBn : bmB.contains (.type Bn) = true) (F : ExcBaseFacts B nid initId bmB) (T : OwnTail h bmB bm) {mN : Str → Option Value} {rest : List Value}
    (hC : h.get? C = some (excClassObj nm q C N bs bm hdct sn sub ab col dd k0 k1 k2 k3 k5 newId)) (hn : h.Ns N mN) (hni : mN "__init__" = some (.ref fI)) (X : K.In h) (hf : typeIn K (.ref fI) = some (.type "function")) (hrest : rest.length ≤ sizeLine)
    (hq : codeAny (model prog w) (A.under (.builtin "type.__call__" ⟨.ref C :: rest, []⟩)) (.call (.ref fI) ⟨.ref (h.objs.size + 1) :: rest, []⟩) (InitBack (h.objs.size + 1) R) ⟨exNew C rest h, g, d, t, os⟩) :
    codeAny (model prog w) A (.call (.ref C) ⟨rest, []⟩) R ⟨h, g, d, t, os⟩ := by
  have f1 := tc_lookup
  have f2 := tc_bind (.ref C)
  have hT : (⟨h, g, d, t, os⟩ : Shared).TypeIs (.ref C) "type" := ⟨_, hC, rfl⟩
  refine codeAny_of_tree ?_
  show wpAny _ _ (callAny (.ref C) _) _ _ _
  repeat (any_goals (first | assumption | with_reducible refine wpAny_loadPart_at hC ?_ | wp_step))
  refine ⟨rfl, ?_⟩
  refine codeAny_call_builtin_at (Code.quiet_builtin _ (by decide +kernel)) entry_typeCall (wpAny_check_type_call_sub hC ?_)
  repeat (first | with_reducible refine wpAny_loadPart_at hC ?_ | with_reducible refine wpAny_madeBy_exc hC ?_ | wp_step)
  refine codeAny_call_builtin_code (Code.quiet_builtin _ Fn.quiet) (wpAny_check_new_subU Fn hBn T hC (codeAny_exc_new_subU Fn hBn F T hC ?_ hrest))
  show wpAny _ _ _ _ _ _
  have kp : ∀ b o, h.get? b = some o → (exNew C rest h).get? b = some o := fun b o e => Heap.get?_push_of_some _ (Heap.get?_push_of_some _ e)
  have hC1 := kp _ _ hC
  have hn1 : (exNew C rest h).Ns N mN := let ⟨o, es, ep, e, r⟩ := hn; ⟨o, es, ep, kp _ _ e, r⟩
  have hg : (exNew C rest h).get? (h.objs.size + 1) = some { cls := .ref C, data := .fields #[.ref h.objs.size, .none, .none, .none, .bool false, .none] } := by unfold exNew; heap_get
  have hcC : (Value.ref C :: bm).contains (.ref C) = true := by simp
  have T1 := T.keeps (h' := exNew C rest h) kp
  have X1 : K.In (exNew C rest h) := fun b o e => kp b o (X b o e)
  unfold isInstance
  repeat (first | with_reducible refine wpAny_loadPart_at hg ?_ | wp_step)
  show wpAny _ _ (isSubtype (.ref C) (.ref C)) _ _ ⟨exNew C rest h, g, d, t, os⟩
  refine wpAny_isSubtype_exc hC1 ?_
  rw [hcC]
  repeat (first | with_reducible refine wpAny_loadPart_at hg ?_ | wp_step)
  show wpAny _ _ (typeLookup (.ref C) _) _ _ _
  refine wpAny_typeLookup_tail hC1 hn1 T1 F.mroIs F.init.lookup ?_
  rw [hni]
  refine wpAny_holding (wpAny_bind ((bind_fn X1 _ hf).at ?_))
  refine wpAny_bind (wpAny_call (codeAny_mono hq fun r s' z => ?_))
  cases r with
  | error e => exact z
  | ok f =>
    cases f with
    | ret v => obtain ⟨rfl, y⟩ := z; exact wpAny_pure (wpAny_pure y)
    | next => exact z.elim
    | brk => exact z.elim
    | cont => exact z.elim
end
def dropRefs : List Value → List Value
  | .ref _ :: r => dropRefs r
  | l => l
theorem refuse_drop (self : Value) : ∀ l : List Value, refuseLoop self "__setattr__" l = refuseLoop self "__setattr__" (dropRefs l)
  | [] => rfl
  | v :: r => by
    cases v with
    | ref c => rw [refuseLoop_ref]; exact refuse_drop self r
    | _ => rfl
def onlyExc (l : List Value) : Bool := dropRefs l == [.type "ValueError", .type "Exception", .type "BaseException", .type "object"]
theorem refuse_exc (self : Value) {l : List Value} (e : onlyExc l = true) : refuseLoop self "__setattr__" l = pure () := by
  rw [refuse_drop, beq_iff_eq.mp e]; exact PySem.F.store_ValueError.passes self
def excOver (K : Frag) (C : Addr) : Bool := (clsIn K C).any fun cd => onlyExc cd.mro && cd.mro.contains (.type "object")
structure EStore (K : Frag) (C : Addr) : Prop where
  ov : excOver K C = true
  sa : findIn K (.ref C) "__setattr__" = some (some (.builtin "object.__setattr__"))
  hd : hasDictIn K C = true
section
variable {prog : Program} {w : World} {A : Around} {E : Value → Shared → Prop} {K : Frag} {x C : Addr} {s : Shared} {name : Str} {v : Value}
theorem osx_open {ox : Obj} {od : Option Obj} {tk : Tok} {R : Result → Shared → Prop} (X : K.In s.heap) (I : InstAt s.heap x ox C od) (hp : excOver K C = true) (ht : takerIn K C name = some none)
    (h : ∀ b, wpAny (model prog w) A.in1 (Builtin.ObjectAttr.storeInOwnDict (.ref x) (.ref C) (.str name tk) name v b) (fun fin s' => match fin with | .done f => R (.ok f) s' | .again c' => c'.quiet = true ∧ codeAny (model prog w) A c' R s') (fun e s' => R (.error e) s') s) :
    codeAny (model prog w) A (.call (.builtin "object.__setattr__") ⟨[.ref x, .str name tk, v], []⟩) R s := by
  have sf := PySem.F.store_object
  obtain ⟨dat, hcl, hov⟩ := any_some hp
  rw [Bool.and_eq_true] at hov
  have emp : dat.mro.isEmpty = false := by cases q : dat.mro with | nil => rw [q] at hov; cases hov.2 | cons _ _ => rfl
  have isObj : Looks (model prog w) s.heap (isInstance (.ref x) (.type "object")) true := I.type.andThen (looks_mroIn X (by unfold mroIn; rw [hcl, Option.bind_some, if_neg (by rw [emp]; decide), hov.2]))
  refine codeAny_call_builtin sf.slot.plain sf.entry (@check_slot (model prog w) _ _ s "object.__setattr__" "object" "__setattr__" (.ref x) [.str name tk, v] [] _ sf.kind sf.split isObj (sf.args (.ref x) (.str name tk) v) ?_)
  obtain ⟨on, hon, hr⟩ := Option.bind_eq_some_iff.mp ht
  have lm : Looks (model prog w) s.heap (mroOf (.ref C)) dat.mro := (looks_clsIn X hcl).andThen .now
  have lt : Looks (model prog w) s.heap (Builtin.ObjectAttr.storeTaker? on) none := by
    cases on with
    | none => exact .now
    | some a =>
      obtain ⟨b, hb, hz⟩ := Option.map_eq_some_iff.mp hr
      refine (looks_takesIn X hb).andThen ?_
      cases b
      · exact .now
      · cases hz
  rw [osa_eq, refuse_eq]
  refine wpAny_bind (wpAny_bind (I.type.here (wpAny_bind (lm.here (by rw [refuse_exc _ hov.1]; refine wpAny_pure (wpAny_bind (I.type.here (wpAny_bind ((looks_findIn X hon).here (wpAny_bind (lt.here (h _))))))))))))
theorem set_exc {vs : Array Value} {sl : Array (Option Value)} {Q : Unit → Shared → Prop} (c : EStore K C) (X : K.In s.heap) (hx : s.heap.get? x = some ⟨.ref C, none, .fields vs, sl⟩) (ht : takerIn K C name = some none)
    (h : ∀ h' tk, h'.get? x = some ⟨.ref C, some s.heap.objs.size, .fields vs, sl⟩ → h'.Ns1 s.heap.objs.size (fun y => if y = name then some v else none) → (∀ b o, b ≠ x → s.heap.get? b = some o → h'.get? b = some o) → Q () { s with heap := h', toks := tk }) :
    wpAny (model prog w) A (setAttr (.ref x) name v) Q E s := by
  have I : InstAt s.heap x ⟨.ref C, none, .fields vs, sl⟩ C none := ⟨hx, rfl, rfl, trivial⟩
  refine set_plain X I c.sa (osx_open (s := { s with toks := s.toks + 1 }) X I c.ov ht fun b => ?_)
  obtain ⟨cd, hc, hd'⟩ := any_some c.hd
  have hxs : x ≠ s.heap.objs.size := Nat.ne_of_lt (Heap.lt_size hx)
  have hx1 : (s.heap.push { cls := .type "dict", data := .dict #[] }).get? x = some ⟨.ref C, none, .fields vs, sl⟩ := Heap.get?_push_of_some _ hx
  refine wpAny_bind (wpAny_pure (wpAny_bind (wpAny_bind (wpAny_loadPart hx ?_))))
  show wpAny _ _ (do if !(← classData C).hasDict then pure none else _) _ _ _
  refine wpAny_bind (Looks.here (s := { s with toks := s.toks + 1 }) (looks_clsIn X hc) ?_)
  rw [hd', if_neg (by decide)]
  show wpAny _ _ (do let d ← alloc { cls := .type "dict", data := .dict #[] }; update x fun o => { o with dict := some d }; dictMade (.ref C) x d) _ _ _
  refine wpAny_bind (wpAny_alloc (wpAny_bind (wpAny_update hx1 (wpAny_pure (a := some s.heap.objs.size) ?_))))
  generalize hg : (s.heap.push { cls := .type "dict", data := .dict #[] }).update x (fun o => { o with dict := some s.heap.objs.size }) = g0
  have gx : g0.get? x = some ⟨.ref C, some s.heap.objs.size, .fields vs, sl⟩ := by rw [← hg]; exact Heap.get?_update_self _ hx1 rfl
  have gd : g0.get? s.heap.objs.size = some { cls := .type "dict", data := .dict #[] } := by rw [← hg]; exact (Heap.get?_update_ne _ _ _ _ hxs.symm).trans (Heap.get?_push_at rfl rfl)
  have gk : ∀ b o, b ≠ x → s.heap.get? b = some o → g0.get? b = some o := fun b o hb e => by rw [← hg]; exact (Heap.get?_update_ne _ _ _ _ hb).trans (Heap.get?_push_of_some _ e)
  have gn : g0.Ns s.heap.objs.size (fun _ => none) := ⟨_, #[], _, gd, rfl, fun e he => absurd he (by simp), fun _ => rfl⟩
  show wpAny _ _ (Builtin.ObjectAttr.storeInDict s.heap.objs.size (.str name s.toks) name v) _ _ _
  unfold Builtin.ObjectAttr.storeInDict Builtin.ObjectAttr.newKeyGuard
  refine wpAny_bind (wpAny_pure (wpAny_bind (wpAny_nsSet1 (Heap.Ns1.of_empty gn) fun h2 n2 s2 => ?_)))
  obtain ⟨oD, eD, pD, q1, q2, q3⟩ := n2.count (Within.cons name v Within.nil)
  refine wpAny_bind (wpAny_lookBehind q1 (by rw [q2]; exact pastItsLine_dict (Nat.le_trans q3 (by rw [List.length_cons, List.length_nil, sizeLine_eq]; omega))) ?_)
  exact wpAny_pure (h h2 _ ((s2.2 x hxs).trans gx) n2 fun b o hb e => (s2.2 b (Nat.ne_of_lt (Heap.lt_size e))).trans (gk b o hb e))
end
end L2
set_option Elab.async false
set_option linter.all false
set_option maxRecDepth 100000
set_option maxHeartbeats 4000000
namespace L2
open PySem PySem.Spec PyProof.Rows PySem.W
section
variable {prog : Program} {w : World} {A : Around} {E : Value → Shared → Prop} {s : Shared} {K : PySem.W.Frag} {x C dx : Addr} {ox : Obj} {od : Option Obj} {name : Str} {mA : Str → Option Value} {u : Value}
theorem exc_get {expr : Bool} {Q : Value → Shared → Prop} (c : ECls K C) (X : K.In s.heap) (hx : s.heap.get? x = some ox) (hcl : ox.cls = .ref C) (hno : notCls ox = true) (hd : ox.dict = some dx) (hn : s.heap.Ns1 dx mA) (ha : NoAttr K C name) (hv : mA name = some u) (hh : handedIn u = true)
    (h : Q u { s with toks := s.toks + 1 }) : wpAny (model prog w) A (getAttr (.ref x) name expr) Q E s := by
  obtain ⟨oD, ho, hl⟩ := lookIn_ns hn
  have I : InstAt s.heap x ox C (some oD) := ⟨hx, hcl, hno, by rw [hd]; exact ho⟩
  have hf : findObj K C (some oD) name = some (.value u) := findObj_own c.hd ha rfl (by rw [hl, hv])
  have L0 := I.type (M := model prog w)
  have L1 := looks_findIn (M := model prog w) X c.ga
  have L2 := looks_findIn (M := model prog w) X c.no
  have L3 := looks_find (M := model prog w) X I hf
  have ck := fun {M : Model} {A : Around} {E : Value → Shared → Prop} {Q : Unit → Shared → Prop} (q : Q () { s with toks := s.toks + 1 }) => exc_check (M := M) (A := A) (E := E) (nameV := .str name s.toks) (s := { s with toks := s.toks + 1 }) c X I q
  obtain ⟨hp, g, d, t, os⟩ := s
  unfold getAttr getAttrBy
  refine wpAny_bind (wpAny_mkText (wpAny_holding (wpAny_bind (L0.at (wpAny_bind (L1.at ?_))))))
  show wpAny _ _ (getAttrByItsOwn _ _ _ _ _ _) _ _ _
  unfold getAttrByItsOwn
  show wpAny _ _ (do let before ← typeLookup (.ref C) "__getattr__"; _) _ _ _
  refine wpAny_bind (L2.at (wpAny_bind (wpAny_attempt (wpAny_holding ?_))))
  unfold callGetattribute
  rw [show (expr && onTheHeap (Value.builtin "BaseException.__getattribute__")) = false from Bool.and_false _, if_neg (by decide)]
  unfold boundAndCalled
  rw [F.attr_ValueError.ga.bind (.ref x)]
  refine wpAny_bind (wpAny_pure (wpAny_call (codeAny_call_builtin F.attr_ValueError.ga.plain F.entry_bexc_ga (ck ?_))))
  refine wpAny_bind (wpAny_pure (wpAny_bind (wpAny_pure (wpAny_bind (L0.at (wpAny_bind (L3.at (wpAny_pure ?_))))))))
  show wpAny _ _ (handedOut u) _ _ _
  rw [handedOut_of hh]
  exact wpAny_pure h
end
section
variable {prog : Program} {w : World} {A : Around} {E : Value → Shared → Prop} {h : Heap} {g : Array GenState} {d : Drawn} {t : Nat} {os : OsState} {e a0 : Addr} {dct : Option Addr}
variable {nm q : Str} {C N : Addr} {bs bm bmB : List Value} {hdct : Bool} {sn : List Str} {sub : List Value} {ab : Bool} {col : Option Bool} {dd : Option Addr} {k0 k1 k2 k3 k5 : Option Value} {B newId nid initId : String}
theorem init_base (F : ExcBaseFacts B nid initId bmB) (T : OwnTail h bmB bm) {rest : List Value} {Q : Value → Shared → Prop} (hC : h.get? C = some (excClassObj nm q C N bs bm hdct sn sub ab col dd k0 k1 k2 k3 k5 newId))
    (he : h.get? e = some ⟨.ref C, dct, .fields #[.ref a0, .none, .none, .none, .bool false, .none], #[]⟩) (hrest : rest.length ≤ sizeLine)
    (hq : ∀ h' a1, h'.get? e = some ⟨.ref C, dct, .fields #[.ref a1, .none, .none, .none, .bool false, .none], #[]⟩ → (∀ b o, b ≠ e → h.get? b = some o → h'.get? b = some o) → Q .none ⟨h', g, d, t, os⟩) :
    wpAny (model prog w) A (call (.builtin initId) (.ref e :: rest)) Q E ⟨h, g, d, t, os⟩ := by
  refine wpAny_call (codeAny_call_builtin F.init.plain F.initEntry (wpAny_check_init_subU F T hC he rfl ?_))
  wp_walk
  refine hq _ h.objs.size ?_ fun b o hb z => ?_
  · rw [Heap.get?_update_self _ (Heap.get?_push_of_some _ he) rfl]; rfl
  · rw [Heap.get?_update_other _ _ (Ne.symm hb)]; exact Heap.get?_push_of_some _ z
end
theorem ns_at {K : Frag} {h : Heap} {N : Addr} {mg : Str → Option Value} {n : Str} {v : Value} (X : K.In h) (G : h.Ns N mg) (e : nsIn K N n = some (some v)) : mg n = some v := by
  obtain ⟨ob, ents, prev, hob, hdat, _, hfind⟩ := G
  unfold nsIn at e
  split at e
  · rename_i c0 d0 es0 n0 sl0 look
    have z := X _ _ look
    rw [hob] at z
    cases z
    cases hdat
    split at e
    · rename_i ent hent
      cases e
      rw [← hfind]
      unfold nsFind findBy
      rw [← Array.find?_toList, hent]; rfl
    · split at e <;> cases e
  · cases e
structure OwnI (K : PySem.W.Frag) (C fI : Addr) : Prop where
  ex : excInI K C fI [.type "ValueError", .type "Exception", .type "BaseException", .type "object"] "ValueError.__new__" = true
  fn : typeIn K (.ref fI) = some (.type "function")
  st : EStore K C
theorem OwnI.op {K : PySem.W.Frag} {C fI : Addr} {h : Heap} (O : OwnI K C fI) (X : K.In h) : ∃ c : ClsD, h.get? C = some (excClassObj c.nm c.q C c.N c.bs c.bm c.hdct c.sn c.sub c.ab c.col c.dd c.k0 c.k1 c.k2 c.k3 c.k5 "ValueError.__new__") ∧
    OwnTail h [.type "ValueError", .type "Exception", .type "BaseException", .type "object"] c.bm ∧ h.Ns c.N (h.nsMap c.N) ∧ h.nsMap c.N "__init__" = some (.ref fI) := by
  obtain ⟨c, look0, tok, nok, noi⟩ := cls_op O.ex
  have nsb : h.Ns c.N (h.nsMap c.N) := .of_isNs (PySem.W.isNs_of_in X nok)
  exact ⟨c, X _ _ look0, PySem.W.tail_of_in X tok, nsb, ns_at X nsb noi⟩
def exO (e C : Addr) (d : Option Addr) : Heap → Prop := fun h => ∃ t, h.get? e = some ⟨.ref C, d, .fields #[.ref t, .none, .none, .none, .bool false, .none], #[]⟩
def exH (e C : Addr) (d : Option Addr) : HO := .ext (exO e C d)
theorem exH_ok {P : Program} {w : World} {H : Hp} {h : Heap} {e C : Addr} {d : Option Addr} (q : exO e C d h) : ObjOk P w H h e (exH e C d) := by
  obtain ⟨t, he⟩ := id q
  exact ⟨q, ⟨_, he⟩, fun h1 h2 ⟨t, a⟩ b => ⟨t, b _ a⟩⟩
theorem exH_get {P : Program} {w : World} {H : Hp} {h : Heap} {e C : Addr} {d : Option Addr} (q : ObjOk P w H h e (exH e C d)) : exO e C d h := q.1
section
variable {X : Cx} {pins : List (Addr × Obj)} {σ : St} {H : Hp} {s : Shared}
theorem Inv.adopt {a : Addr} {o : HO} (I : Inv X pins σ H s) (N : NewAt X pins a) (hn : H a = none) (new : ObjOk X.prog X.w (upd H a o) s.heap a o) : Inv X pins σ (upd H a o) s := by
  have ne : ∀ {b : Addr} {u : HO}, H b = some u → b ≠ a := fun q z => by rw [z, hn] at q; cases q
  refine ⟨I.ok, I.os, I.bare, ⟨I.base.keep, I.base.slot, fun b u q n hx => ?_, I.base.there, fun b xs q => ?_, fun b u v q => ?_, fun b ps q => ?_⟩, I.loc, I.cell, ?_, fun x c q => ?_, fun p hp => ?_, fun b u q => ?_, I.len⟩
  · rw [upd_ne (fun z => by rw [z, N.s0] at q; cases q)]; exact I.base.free b u q n hx
  · have z := I.base.tups b xs q; rw [upd_ne (ne z)]; exact z
  · have z := I.base.frzs b u v q; rw [upd_ne (ne z)]; exact z
  · obtain ⟨m, z⟩ := I.base.tbls b ps q; exact ⟨m, by rw [upd_ne (ne z)]; exact z⟩
  · rw [upd_ne (Ne.symm N.loc)]; exact I.free
  · rw [upd_ne (N.cel x c q)]; exact I.freeC x c q
  · obtain ⟨a1, b1, c1, d1, f1⟩ := I.pin p hp
    exact ⟨a1, by rw [upd_ne (N.pin p hp)]; exact b1, c1, d1, f1⟩
  · by_cases hb : b = a
    · subst hb; rw [upd_same] at q; cases q; exact new
    · rw [upd_ne hb] at q
      exact (I.hok b u q).stay (fun _ _ _ r => r) (fun c r => by rw [upd_ne (ne r)]; exact r) fun c xs r => by rw [upd_ne (ne r)]; exact r
theorem Inv.newAt {a : Addr} (I : Inv X pins σ H s) (ha : s.heap.objs.size ≤ a) : NewAt X pins a where
  s0 := Heap.get?_none_of_le (Nat.le_trans I.sz ha)
  loc := Nat.ne_of_gt (Nat.lt_of_lt_of_le I.lt ha)
  cel := fun x c e z => by
    obtain ⟨v, o, q, _⟩ := I.cell x c e
    exact absurd (Nat.lt_of_lt_of_le (Heap.lt_size q) (by rw [z]; exact ha)) (Nat.lt_irrefl _)
  fs := I.nofs ha
  pin := fun p hp z => absurd (Nat.lt_of_lt_of_le (Heap.lt_size (I.pin p hp).1) (by rw [z]; exact ha)) (Nat.lt_irrefl _)
structure BaseI (K : PySem.W.Frag) (B : Addr) : Prop where
  sp : specialIn K (.ref B) "__getattribute__" = some (some (.builtin "type.__getattribute__"))
  rd : readsIn K B (.type "type") = true
  fc : findCls K (.ref B) (.type "type") "__init__" = some (.val (.builtin "ValueError.__init__"))
def kXI (K : PySem.W.Frag) (Q : VK) : List V → Hp → Prop := fun vs H => ∃ e C d fI rest, vs = .ref e :: rest ∧ H e = some (exH e C d) ∧ OwnI K C fI ∧ rest.length ≤ sizeLine ∧ Q .non H
def tXI (K : PySem.W.Frag) (t : TA) : TE := fun σ H Q => t σ H (kXI K Q)
theorem pe_xinit {x : Str} {B : Addr} {p apos pos : Pos} {e : Expr} {es : List Expr} {t : TA} {pl : Sem Bool} (hg : Gl X x) (hm : X.mg x = some (.ref B)) (b : BaseI X.K B) (ha : PA X (e :: es) t) (hdb : (x == ("__debug__" : Str)) = false := by decide)
    (hst : starEach (e :: es) X.env = (false, eval e X.env) :: starEach es X.env := by rfl) (hpl : (backTo pos (starEach es X.env)).any (·.1) = false := by rfl)
    (ht : eval (.Call (.Attribute (.Name x p) "__init__" apos) (e :: es) [] pos) X.env = (do
      let ov ← eval (.Name x p) X.env
      standAt apos.atName
      let (f, first) ← holding [ov] (getMethod ov "__init__" pl)
      callWith pos f first (backTo pos (starEach (e :: es) X.env)) (backToKw pos (keywordEach [] X.env))) := by rfl) :
    PE X (.Call (.Attribute (.Name x p) "__init__" apos) (e :: es) [] pos) (tXI X.K t) := by
  intro pins s σ H Q I h
  refine PySem.W.methodCall_KW (pl := pl) (ld_glob I hg hm ?_ hdb) ht
  refine method_cls I.kIn b.sp (cls_value I.kIn b.rd b.fc (by decide +kernel) ?_)
  have I1 := I.tok (s.toks + 1)
  refine PyProof.Rows.callWith_builtin1 (thn (ha pos pins _ σ H _ I1 h) fun us s1 ⟨vs, H1, J, r1, q1⟩ => ?_) hst hpl
  obtain ⟨ex, C, d, fI, rest, rfl, he, O, hl, q⟩ := q1
  cases r1 with
  | cons r rr =>
    cases r
    obtain ⟨t0, h0⟩ := exH_get (J.hok ex _ he)
    obtain ⟨c, hC, T, _, _⟩ := O.op J.kIn
    refine init_base (h := s1.heap) (g := s1.gens) (d := s1.drawn) (t := s1.toks) (os := s1.os) PySem.F.excBase_ValueError T hC h0 (by rw [← rr.length]; exact hl) fun h' a1 q1 q2 => ?_
    have same : upd H1 ex (exH ex C d) = H1 := funext fun b => by
      by_cases hb : b = ex
      · rw [hb, upd_same, he]
      · rw [upd_ne hb]
    have J2 := J.write (t' := s1.toks) (x := ex) (e := ex) (o := exH ex C d) (by rw [he]; trivial) (.inl rfl) (fun b u hb z => q2 b u hb z) ⟨_, q1⟩ (exH_ok ⟨a1, q1⟩)
    rw [same] at J2
    exact ⟨.non, H1, J2, rfl, q⟩
end
end L2
set_option Elab.async false
set_option linter.all false
set_option maxRecDepth 100000
set_option maxHeartbeats 4000000
namespace L2
open PySem PySem.Spec PyProof.Rows PySem.W
def kXS1 (K : PySem.W.Frag) (f : Str) (y : V) (σ : St) (nx : St → Hp → Prop) : VK := fun x H => ∃ e C, x = .ref e ∧ H e = some (exH e C none) ∧ EStore K C ∧ takerIn K C f = some none ∧
  ∀ dx H', H dx = none → dx ≠ e → (∀ b o, b ≠ e → H b = some o → H' b = some o) → H' e = some (exH e C (some dx)) → H' dx = some (.xd [(f, y)]) → nx σ H'
def kXS0 (K : PySem.W.Frag) (f : Str) (ta : TE) (σ : St) (nx : St → Hp → Prop) : VK := fun y H => ta σ H (kXS1 K f y σ nx)
def xSetF (K : PySem.W.Frag) (ta tv : TE) (f : Str) : TS := fun D σ H => tv σ H (kXS0 K f ta σ D.nx)
section
variable {X : Cx} {e o value : Expr} {ta tv : TE} {f : Str} {pos pos' : Pos}
theorem ps_xset (ha : PE X o ta) (hv : PE X value tv) (hs : swapsWith value (some (.Attribute o f pos')) pos.line X.env = pure false) : PS X (.Assign [.Attribute o f pos'] value pos) (xSetF X.K ta tv f) := by
  intro pins s σ H D I h
  refine plainObj_wpAny_Assign_Attribute (thn (hv pins s σ H _ I h) fun u s1 ⟨y, H1, I1, ry, q⟩ => thn (ha pins s1 σ H1 _ I1 q) fun ov s2 ⟨x, H2, I2, rx, q1⟩ => ?_) hs
  obtain ⟨ex, C, rfl, he, st, ht, k⟩ := q1
  obtain rfl : ov = Value.ref ex := rx
  obtain ⟨t0, h0⟩ := exH_get (I2.hok ex _ he)
  refine set_exc st I2.kIn h0 ht fun h' tk q1 q2 q3 => ?_
  have fr : H2 s2.heap.objs.size = none := I2.hok.fresh (Nat.le_refl _)
  have ne : s2.heap.objs.size ≠ ex := Nat.ne_of_gt (Heap.lt_size h0)
  have J := I2.write (t' := tk) (x := ex) (e := ex) (o := exH ex C (some s2.heap.objs.size)) (by rw [he]; trivial) (.inl rfl) (fun b u hb z => q3 b u hb z) ⟨_, q1⟩ (exH_ok ⟨t0, q1⟩)
  have J2 := J.adopt (a := s2.heap.objs.size) (o := .xd [(f, y)]) (I2.newAt (Nat.le_refl _)) (by rw [upd_ne ne]; exact fr) ⟨_, q2, fun g => ?_⟩
  · refine ⟨σ, _, J2, k s2.heap.objs.size _ fr ne (fun b u hb z => ?_) ?_ upd_same⟩
    · rw [upd_ne (ne_of_none z fr), upd_ne hb]; exact z
    · rw [upd_ne (Ne.symm ne), upd_same]
  · show RelO (List.lookup g [(f, y)]) (if g = f then some u else none)
    by_cases hg : g = f
    · subst hg
      rw [if_pos rfl, List.lookup_cons_self]; exact ry
    · have hb : (g == f) = false := beq_eq_false_iff_ne.mpr hg
      rw [if_neg hg, List.lookup_cons, hb]; exact True.intro
end
def del (H : Hp) (e : Addr) : Hp := fun b => if b = e then none else H b
theorem del_same {H : Hp} {e : Addr} : del H e e = none := if_pos rfl
theorem del_ne {H : Hp} {e b : Addr} (h : b ≠ e) : del H e b = H b := if_neg h
theorem Inv.untrack {X : Cx} {pins : List (Addr × Obj)} {σ : St} {H : Hp} {s : Shared} {e C : Addr} {d : Option Addr} (I : Inv X pins σ H s) (he : H e = some (exH e C d)) : Inv X pins σ (del H e) s := by
  have ne : ∀ {b : Addr} {u : HO}, H b = some u → u ≠ exH e C d → b ≠ e := fun q z k => by rw [k, he] at q; exact z (Option.some.inj q).symm
  have no : ∀ {b : Addr}, H b = none → del H e b = none := fun {b} q => by
    by_cases hb : b = e
    · rw [hb]; exact del_same
    · rw [del_ne hb]; exact q
  refine ⟨I.ok, I.os, I.bare, ⟨I.base.keep, I.base.slot, fun b u q n hx => no (I.base.free b u q n hx), I.base.there, fun b xs q => ?_, fun b u v q => ?_, fun b ps q => ?_⟩, I.loc, I.cell, no I.free, fun x c q => no (I.freeC x c q), fun p hp => ?_, fun b u q => ?_, I.len⟩
  · have z := I.base.tups b xs q; rw [del_ne (ne z (by intro k; cases k))]; exact z
  · have z := I.base.frzs b u v q; rw [del_ne (ne z (by intro k; cases k))]; exact z
  · obtain ⟨m, z⟩ := I.base.tbls b ps q; exact ⟨m, by rw [del_ne (ne z (by intro k; cases k))]; exact z⟩
  · obtain ⟨a1, b1, c1, d1, f1⟩ := I.pin p hp
    exact ⟨a1, no b1, c1, d1, f1⟩
  · have hb : b ≠ e := fun z => by rw [z, del_same] at q; cases q
    rw [del_ne hb] at q
    exact (I.hok b u q).stay (fun _ _ _ r => r) (fun c r => by rw [del_ne (ne r (by intro k; cases k))]; exact r) fun c xs r => by rw [del_ne (ne r (by intro k; cases k))]; exact r
def RaisesD (X : Cx) (E : XK) (σ : St) : Prop := ∀ (pins : List (Addr × Obj)) (H : Hp) (s : Shared) (e C : Addr) (d : Option Addr), Inv X pins σ H s → H e = none → X.s₀.heap.get? e = none → exO e C d s.heap → (∀ dx, d = some dx → ∃ fs, H dx = some (.xd fs)) → E (.ref C) d H → X.xe (.ref e) s
theorem raisesD_def {P : Program} {w : World} {K : PySem.W.Frag} {mg : Str → Option Value} {base : Heap} {N : List Str} {qual : Str} {scope : Scope} {f : Addr} {cd : Value} {A : Around} {outer : List Env} {s₀ : Shared} {H₀ : Hp} {E : XK} {σ : St} :
    RaisesD (cxOf (CX1 P w) P w K mg base N qual scope f cd A outer s₀ H₀ E) E σ := by
  intro pins H s e C d I hn hn0 hx hd hE
  obtain ⟨t, he⟩ := hx
  show wpAny (model P w) (A.deeper (envOfC qual scope s₀.heap.objs.size f cd)) (leaving (envOfC qual scope s₀.heap.objs.size f cd) (.ref e)) _ _ _
  unfold leaving
  have un : Un (frs outer) [] H₀ H s₀.heap s.heap := I.base
  refine wpAny_bind (note_new (s := s) (base := base) (outer := outer) I.ok.frames I.stack rfl he rfl rfl fun g T ng nT ex => ?_)
  refine ⟨e, T, .ref C, d, H, rfl, I.os, I.bare, un.noted ng hn0 (fun _ z => z.elim) (fun b hb => ?_), I.hok.noted ng hn (fun _ z => z.elim) I.stkFree, hn0, un.gone nT, hn, I.hok.gone nT, ex, hd, hE⟩
  rcases List.mem_cons.mp (I.stkSub b hb) with z | z
  · exact .inr (by rw [z]; exact Heap.get?_none_of_le (Nat.le_refl _))
  · exact .inl z
theorem raise_made {M : Model} {A : Around} {E : Value → Shared → Prop} {env : Env} {s : Shared} {x : Sem Value} {Q : Flow → Shared → Prop} {C : Addr} (hh : A.handled = none)
    (h : wpAny M A x (fun v s1 => ∃ (e : Addr) (d : Option Addr) (c : ClsD) (newId : String), v = .ref e ∧ s1.heap.get? C = some (excClassObj c.nm c.q C c.N c.bs c.bm c.hdct c.sn c.sub c.ab c.col c.dd c.k0 c.k1 c.k2 c.k3 c.k5 newId) ∧ c.bm.contains (.type "BaseException") = true ∧ exO e C d s1.heap ∧ E (.ref e) s1) E s) :
    wpAny M A (raiseStmt env (some x) none) Q E s := by
  unfold raiseStmt
  refine wpAny_bind (wpAny_mono h (fun v s1 h1 => ?_) fun _ _ z => z)
  obtain ⟨e, d, c, newId, rfl, hC, hb, ⟨t, he⟩, hE⟩ := h1
  have hcB : (Value.ref C :: c.bm).contains (.type "BaseException") = true := by rw [List.contains_cons, hb, Bool.or_true]
  obtain ⟨hp, g, dr, tk, os⟩ := s1
  repeat (first | with_reducible refine wpAny_loadPart_at he ?_ | with_reducible refine wpAny_loadPart_at hC ?_ | (with_reducible refine wpAny_isSubtype_exc hC ?_; rw [hcB]) | wp_step)
  exact wpAny_raiseNew_none hh hE
section
variable {X : Cx}
def kRz (e C : Addr) (E : XK) : VK := fun v H => v = .non ∧ ∃ d, H e = some (exH e C d) ∧ (∀ dx, d = some dx → ∃ fs, del H e dx = some (.xd fs)) ∧ E (.ref C) d (del H e)
def kRI (C : Addr) (sp : Sp) (E : XK) : List V → Hp → Prop := fun vs H => vs.length ≤ sizeLine ∧ ∀ e, H e = none → sp (.ref e :: vs) (upd H e (exH e C none)) (kRz e C E) E0
def tRaiseI (C : Addr) (sp : Sp) (E : St → XK) (t : TA) : TS := fun _ σ H => t σ H (kRI C sp (E σ))
theorem ps_raiseI {C fI : Addr} {fd : FuncData} {ps : List Str} {sp : Sp} {k : Nat} {x : Str} {e₀ : Expr} {rest : List Expr} {np cpos pos : Pos} {t : TA} {E : St → XK} (hc : X.calm = true) (hg : Gl X x) (hmg : X.mg x = some (.ref C)) (O : OwnI X.K C fI)
    (F : FnOk X.prog X.w X.K X.mg X.base CX0 k fI fd ps sp) (hr : Room (k + 1) X.A) (hb : Binds X.K fd ps []) (hx : ∀ σ, RaisesD X (E σ) σ) (ha : PA X (e₀ :: rest) t)
    (he : starEach (e₀ :: rest) X.env = (false, eval e₀ X.env) :: starEach rest X.env := by rfl) (hplain : (backTo cpos (starEach rest X.env)).any (·.1) = false := by rfl) (hdb : (x == ("__debug__" : Str)) = false := by decide) :
    PS X (.Raise (some (.Call (.Name x np) (e₀ :: rest) [] cpos)) none pos) (tRaiseI C sp E t) := by
  intro pins s σ H D I h
  rw [arm_exec_Raise]
  refine wpAny_bind (wpAny_standAt (raise_made (C := C) (I.ok.hd hc) (wpAny_bind (wpAny_mono (wpAny_Call_ofName (ld_glob I hg hmg ?_ hdb)) (fun v s3 h3 => wpAny_bind (wpAny_standAt (wpAny_pure h3))) fun _ _ z => z))))
  unfold callWith
  have hh := ha cpos pins s σ H _ I h
  rw [he] at hh ⊢
  refine wpAny_bind (wpAny_holding (Calls.evalArgs_plain (thn hh fun us s2 ⟨vs, H2, I2, r, hl, hsp⟩ => wpAny_bind (wpAny_standAt ?_))))
  obtain ⟨c, hC, T, hN, hi⟩ := O.op I2.kIn
  have hpl2 : (backTo cpos ((false, eval e₀ X.env) :: starEach rest X.env)).any (·.1) = false := (Bool.false_or _).trans hplain
  have I3 : Inv X pins σ (upd H2 (s2.heap.objs.size + 1) (exH (s2.heap.objs.size + 1) C none)) { s2 with heap := exNew C us s2.heap } := by
    have J := I2.kept (t' := s2.toks) (h' := s2.heap.push { cls := .type "tuple", data := .seq us.toArray }) fun b u q => Heap.get?_push_of_some _ q
    refine J.laid (t' := s2.toks) (a := s2.heap.objs.size + 1) (o := exH (s2.heap.objs.size + 1) C none) (fun b u q => Heap.get?_push_of_some _ q) (Nat.le_of_eq (Heap.size_push _ _)) (exH_ok ⟨s2.heap.objs.size, ?_⟩)
    have := Heap.get?_push_size (s2.heap.push { cls := .type "tuple", data := .seq us.toArray }) (o := ⟨.ref C, none, .fields #[.ref s2.heap.objs.size, .none, .none, .none, .bool false, .none], #[]⟩) rfl
    rwa [Heap.size_push] at this
  have hq := hsp (s2.heap.objs.size + 1) (I2.hok.fresh (Nat.le_succ _))
  have r2 : Vals (V.ref (s2.heap.objs.size + 1) :: vs) (Value.ref (s2.heap.objs.size + 1) :: us) := .cons rfl r
  have hl2 : (Value.ref (s2.heap.objs.size + 1) :: us ++ []).length = ps.length := by
    rw [List.append_nil, ← r2.length]; exact F.len _ _ _ _ hq
  simp only [hpl2]
  refine wpAny_bind (wpAny_keeperOf_exc (h := s2.heap) (g := s2.gens) (d := s2.drawn) (t := s2.toks) (os := s2.os) hC ?_)
  refine wpAny_bind (wpAny_call (exc_own (h := s2.heap) (g := s2.gens) (d := s2.drawn) (t := s2.toks) (os := s2.os) PySem.F.excBase_ValueError (by decide +kernel) PySem.F.excBase_ValueError T hC hN hi I2.kIn O.fn (by show us.length ≤ sizeLine; rw [← r.length]; exact hl) ?_))
  have hbind := hb { s2 with heap := exNew C us s2.heap } (Value.ref (s2.heap.objs.size + 1) :: us) I3.kIn hl2
  rw [List.append_nil] at hbind
  refine codeAny_mono (F.run _ X.stack _ _ ⟨Value.ref (s2.heap.objs.size + 1) :: us, []⟩ (Value.ref (s2.heap.objs.size + 1) :: us) _ _ E0 (hr.make C us []) (I3.env0.make C us []) hbind r2 hq) fun rr s' hq' => ?_
  cases rr with
  | error e => exact hq'.elim
  | ok fl =>
    cases fl with
    | ret u =>
      obtain ⟨v, H', I4, rv, rfl, d, hd1, hd2, hE⟩ := I3.after hq'
      cases rv
      refine ⟨rfl, wpAny_bind (wpAny_holding (wpAny_point (wpAny_pure ?_)))⟩
      obtain ⟨c', hC', T', _, _⟩ := O.op I4.kIn
      exact ⟨s2.heap.objs.size + 1, d, c', _, rfl, hC', T'.hasType (by decide +kernel), exH_get (I4.hok _ _ hd1),
        hx σ pins (del H' (s2.heap.objs.size + 1)) s' _ C d (I4.untrack hd1) del_same (Heap.get?_none_of_le (Nat.le_trans I2.sz (Nat.le_succ _))) (exH_get (I4.hok _ _ hd1)) hd2 hE⟩
    | next => exact False.elim hq'
    | brk => exact False.elim hq'
    | cont => exact False.elim hq'
def kXF (K : PySem.W.Frag) (f : Str) (Q : VK) : VK := fun x H => ∃ e oe C dx fs v, x = .ref e ∧ H e = some (excO oe) ∧ oe.cls = .ref C ∧ oe.dict = some dx ∧ (∃ vs, oe.data = .fields vs) ∧ H dx = some (.xd fs) ∧ ECls K C ∧ NoAttr K C f ∧ fs.lookup f = some v ∧ Q v H
def tXF (K : PySem.W.Frag) (ta : TE) (f : Str) : TE := fun σ H Q => ta σ H (kXF K f Q)
theorem pe_xfld {e : Expr} {f : Str} {pos : Pos} {ta : TE} (he : PE X e ta) (hb : attributeBase e f X.env (eval e X.env) = eval e X.env) : PE X (.Attribute e f pos) (tXF X.K ta f) := by
  intro pins s σ H Q I h
  refine attr_of hb (thn (he pins s σ H _ I h) fun u s1 ⟨x, H1, I1, rx, q1⟩ => ?_)
  obtain ⟨ex, oe, C, dx, fs, v, rfl, hx, hcl, hd, ⟨vs, hdat⟩, hxd, c, n, l, q⟩ := q1
  obtain rfl : u = Value.ref ex := rx
  have h1 : s1.heap.get? ex = some oe := (I1.hok ex _ hx).1
  obtain ⟨mA, hn, hr⟩ := I1.hok dx _ hxd
  obtain ⟨u, hu, ru⟩ := RelO.some_of (v := v) (o := mA f) (by rw [← l]; exact hr f)
  exact exc_get c I1.kIn h1 hcl (by unfold notCls; rw [hdat]) hd hn n hu (handed_of ru) ⟨v, H1, I1.tok _, ru, q⟩
theorem pe_xfld' {K : PySem.W.Frag} (hK : X.K = K) {e : Expr} {f : Str} {pos : Pos} {ta : TE} (he : PE X e ta) (hb : attributeBase e f X.env (eval e X.env) = eval e X.env) : PE X (.Attribute e f pos) (tXF K ta f) := hK ▸ pe_xfld he hb
end
end L2
set_option Elab.async false
set_option linter.all false
set_option maxRecDepth 100000
set_option maxHeartbeats 4000000
namespace L2
open PySem
open PySem.Spec PyProof.Rows
theorem gName_0 {a : Option V} {v : V} {σ : St} {H : Hp} {Q : St → Hp → Prop} : gName 0 v (a :: σ) H Q = Q (some v :: σ) H := rfl
theorem gName_1 {a0 : Option V} {a : Option V} {v : V} {σ : St} {H : Hp} {Q : St → Hp → Prop} : gName 1 v (a0 :: a :: σ) H Q = Q (a0 :: some v :: σ) H := rfl
theorem gName_2 {a0 a1 : Option V} {a : Option V} {v : V} {σ : St} {H : Hp} {Q : St → Hp → Prop} : gName 2 v (a0 :: a1 :: a :: σ) H Q = Q (a0 :: a1 :: some v :: σ) H := rfl
theorem gName_3 {a0 a1 a2 : Option V} {a : Option V} {v : V} {σ : St} {H : Hp} {Q : St → Hp → Prop} : gName 3 v (a0 :: a1 :: a2 :: a :: σ) H Q = Q (a0 :: a1 :: a2 :: some v :: σ) H := rfl
theorem gName_4 {a0 a1 a2 a3 : Option V} {a : Option V} {v : V} {σ : St} {H : Hp} {Q : St → Hp → Prop} : gName 4 v (a0 :: a1 :: a2 :: a3 :: a :: σ) H Q = Q (a0 :: a1 :: a2 :: a3 :: some v :: σ) H := rfl
theorem gName_5 {a0 a1 a2 a3 a4 : Option V} {a : Option V} {v : V} {σ : St} {H : Hp} {Q : St → Hp → Prop} : gName 5 v (a0 :: a1 :: a2 :: a3 :: a4 :: a :: σ) H Q = Q (a0 :: a1 :: a2 :: a3 :: a4 :: some v :: σ) H := rfl
theorem gName_6 {a0 a1 a2 a3 a4 a5 : Option V} {a : Option V} {v : V} {σ : St} {H : Hp} {Q : St → Hp → Prop} : gName 6 v (a0 :: a1 :: a2 :: a3 :: a4 :: a5 :: a :: σ) H Q = Q (a0 :: a1 :: a2 :: a3 :: a4 :: a5 :: some v :: σ) H := rfl
theorem gName_7 {a0 a1 a2 a3 a4 a5 a6 : Option V} {a : Option V} {v : V} {σ : St} {H : Hp} {Q : St → Hp → Prop} : gName 7 v (a0 :: a1 :: a2 :: a3 :: a4 :: a5 :: a6 :: a :: σ) H Q = Q (a0 :: a1 :: a2 :: a3 :: a4 :: a5 :: a6 :: some v :: σ) H := rfl
def optK {α : Type} : Option α → (α → Prop) → Prop
  | some x, k => k x
  | none, _ => False
theorem optK_some {α : Type} (x : α) (k : α → Prop) : optK (some x) k = k x := rfl
theorem optK_ex {α : Type} {o : Option α} {k : α → Prop} (h : optK o k) : ∃ x, o = some x ∧ k x := by
  cases o with
  | none => exact h.elim
  | some x => exact ⟨x, rfl, h⟩
def seqO : HO → Option (List V)
  | .lst xs => some xs
  | .tup xs => some xs
  | .frz _ (.lst xs) => some xs
  | _ => none
def lstO : HO → Option (List V)
  | .lst xs => some xs
  | _ => none
def tupO : HO → Option (List V)
  | .tup xs => some xs
  | _ => none
def itemsAt (H : Hp) (p : Addr) : Option (List V) := (H p).bind seqO
def lstAt (H : Hp) (p : Addr) : Option (List V) := (H p).bind lstO
def tupAt (H : Hp) (p : Addr) : Option (List V) := (H p).bind tupO
theorem seqO_lst (xs : List V) : seqO (.lst xs) = some xs := rfl
theorem seqO_tup (xs : List V) : seqO (.tup xs) = some xs := rfl
theorem lstO_lst (xs : List V) : lstO (.lst xs) = some xs := rfl
theorem tupO_tup (xs : List V) : tupO (.tup xs) = some xs := rfl
theorem bind_some' {α β : Type} (x : α) (f : α → Option β) : (some x).bind f = f x := rfl
abbrev Ext (H H' : Hp) : Prop := (∀ a, (H a).isSome = true → H' a = H a) ∧ ∀ (K : PySem.W.Frag) a xs, SqL K H a xs → SqL K H' a xs
def kOp' (r : R2) (x : V) (Q : VK) : VK := fun y H => r x y H Q
theorem m_kOp' (r : R2) (x y : V) (H : Hp) (Q : VK) : (kOp' r x Q y H) = (r x y H Q) := rfl
def kOp (r : R2) (tb : TE) (σ : St) (Q : VK) : VK := fun x H => tb σ H (kOp' r x Q)
theorem m_kOp (r : R2) (tb : TE) (σ : St) (Q : VK) (x : V) (H : Hp) : (kOp r tb σ Q x H) = (tb σ H (kOp' r x Q)) := rfl
theorem m_tOp (r : R2) (ta tb : TE) (σ : St) (H : Hp) (Q : VK) : (tOp r ta tb σ H Q) = (ta σ H (kOp r tb σ Q)) := rfl
theorem m_tC (v : V) (σ : St) (H : Hp) (Q : VK) : (tC v σ H Q) = (Q v H) := rfl
def kUn (r : V → Hp → VK → Prop) (Q : VK) : VK := fun x H => r x H Q
theorem m_kUn (r : V → Hp → VK → Prop) (Q : VK) (x : V) (H : Hp) : (kUn r Q x H) = (r x H Q) := rfl
theorem m_tUn (r : V → Hp → VK → Prop) (ta : TE) (σ : St) (H : Hp) (Q : VK) : (tUn r ta σ H Q) = (ta σ H (kUn r Q)) := rfl
def kTest (Q : Bool → Hp → Prop) : VK := fun x H => ∃ k, x = .bl k ∧ Q k H
def kNot (Q : Bool → Hp → Prop) : Bool → Hp → Prop := fun c H => Q (!c) H
theorem m_kNot (Q : Bool → Hp → Prop) (c : Bool) (H : Hp) : (kNot Q c H) = (Q (!c) H) := rfl
theorem m_tNot (t : TT) (σ : St) (H : Hp) (Q : Bool → Hp → Prop) : (tNot t σ H Q) = (t σ H (kNot Q)) := rfl
def kAnd (u : TT) (σ : St) (Q : Bool → Hp → Prop) : Bool → Hp → Prop := fun c H => if c = true then u σ H Q else Q false H
theorem m_kAnd (u : TT) (σ : St) (Q : Bool → Hp → Prop) (c : Bool) (H : Hp) : (kAnd u σ Q c H) = (if c = true then u σ H Q else Q false H) := rfl
theorem m_tAnd (t u : TT) (σ : St) (H : Hp) (Q : Bool → Hp → Prop) : (tAnd t u σ H Q) = (t σ H (kAnd u σ Q)) := rfl
def kOr (u : TT) (σ : St) (Q : Bool → Hp → Prop) : Bool → Hp → Prop := fun c H => if c = true then Q true H else u σ H Q
theorem m_kOr (u : TT) (σ : St) (Q : Bool → Hp → Prop) (c : Bool) (H : Hp) : (kOr u σ Q c H) = (if c = true then Q true H else u σ H Q) := rfl
theorem m_tOr (t u : TT) (σ : St) (H : Hp) (Q : Bool → Hp → Prop) : (tOr t u σ H Q) = (t σ H (kOr u σ Q)) := rfl
def kAndV (tb : TE) (σ : St) (Q : VK) : VK := fun x H => ∃ c, x = .bl c ∧ if c = true then tb σ H Q else Q (.bl false) H
def kOrV (tb : TE) (σ : St) (Q : VK) : VK := fun x H => ∃ c, x = .bl c ∧ if c = true then Q (.bl true) H else tb σ H Q
def kNotV (Q : VK) : VK := fun x H => ∃ c, x = .bl c ∧ Q (.bl (!c)) H
def kIfE (ta tb : TE) (σ : St) (Q : VK) : Bool → Hp → Prop := fun c H => if c = true then ta σ H Q else tb σ H Q
theorem m_kIfE (ta tb : TE) (σ : St) (Q : VK) (c : Bool) (H : Hp) : (kIfE ta tb σ Q c H) = (if c = true then ta σ H Q else tb σ H Q) := rfl
theorem m_tIf (t : TT) (ta tb : TE) (σ : St) (H : Hp) (Q : VK) : (tIf t ta tb σ H Q) = (t σ H (kIfE ta tb σ Q)) := rfl
def kCh3 (r' : R2) (y : V) (Q : VK) : VK := fun w H => r' y w H Q
theorem m_kCh3 (r' : R2) (y w : V) (Q : VK) (H : Hp) : (kCh3 r' y Q w H) = (r' y w H Q) := rfl
def kCh2 (r' : R2) (tc : TE) (σ : St) (y : V) (Q : VK) : VK := fun z H => ∃ k, z = .bl k ∧ (if k = true then tc σ H (kCh3 r' y Q) else Q (.bl false) H)
def kCh1 (r r' : R2) (tc : TE) (σ : St) (x : V) (Q : VK) : VK := fun y H => r x y H (kCh2 r' tc σ y Q)
def kCh0 (r r' : R2) (tb tc : TE) (σ : St) (Q : VK) : VK := fun x H => tb σ H (kCh1 r r' tc σ x Q)
theorem m_tNil (σ : St) (H : Hp) (Q : List V → Hp → Prop) : (tNil σ H Q) = (Q [] H) := rfl
def kCons' (x : V) (Q : List V → Hp → Prop) : List V → Hp → Prop := fun xs H => Q (x :: xs) H
theorem m_kCons' (x : V) (Q : List V → Hp → Prop) (xs : List V) (H : Hp) : (kCons' x Q xs H) = (Q (x :: xs) H) := rfl
def kCons (tr : TA) (σ : St) (Q : List V → Hp → Prop) : VK := fun x H => tr σ H (kCons' x Q)
theorem m_kCons (tr : TA) (σ : St) (Q : List V → Hp → Prop) (x : V) (H : Hp) : (kCons tr σ Q x H) = (tr σ H (kCons' x Q)) := rfl
theorem m_tCons (ta : TE) (tr : TA) (σ : St) (H : Hp) (Q : List V → Hp → Prop) : (tCons ta tr σ H Q) = (ta σ H (kCons tr σ Q)) := rfl
def kCall (sp : Sp) (dvs : List V) (E : XK) (Q : VK) : List V → Hp → Prop := fun vs H => sp (vs ++ dvs) H Q E
theorem m_kCall_1 (v0 : V) (sp : Sp) (dvs : List V) (E : XK) (Q : VK) (H : Hp) : kCall sp dvs E Q [v0] H = sp (v0 :: dvs) H Q E := rfl
theorem m_kCall_2 (v0 v1 : V) (sp : Sp) (dvs : List V) (E : XK) (Q : VK) (H : Hp) : kCall sp dvs E Q [v0, v1] H = sp (v0 :: v1 :: dvs) H Q E := rfl
theorem m_kCall_3 (v0 v1 v2 : V) (sp : Sp) (dvs : List V) (E : XK) (Q : VK) (H : Hp) : kCall sp dvs E Q [v0, v1, v2] H = sp (v0 :: v1 :: v2 :: dvs) H Q E := rfl
theorem m_tCall (sp : Sp) (dvs : List V) (E : XK) (t : TA) (σ : St) (H : Hp) (Q : VK) : (tCall sp dvs E t σ H Q) = (t σ H (kCall sp dvs E Q)) := rfl
def kCB (r : List V → Hp → VK → Prop) (Q : VK) : List V → Hp → Prop := fun vs H => r vs H Q
theorem m_kCB (r : List V → Hp → VK → Prop) (Q : VK) (vs : List V) (H : Hp) : (kCB r Q vs H) = (r vs H Q) := rfl
theorem m_tCB (r : List V → Hp → VK → Prop) (t : TA) (σ : St) (H : Hp) (Q : VK) : (tCB r t σ H Q) = (t σ H (kCB r Q)) := rfl
theorem m_tNext (nx : St → Hp → Prop) (rt : VK) (bk ct : St → Hp → Prop) (σ : St) (H : Hp) : (tNext ⟨nx, rt, bk, ct⟩ σ H) = (nx σ H) := rfl
theorem m_tSeq (t u : TS) (nx : St → Hp → Prop) (rt : VK) (bk ct : St → Hp → Prop) (σ : St) (H : Hp) : (tSeq t u ⟨nx, rt, bk, ct⟩ σ H) = (t ⟨u ⟨nx, rt, bk, ct⟩, rt, bk, ct⟩ σ H) := rfl
theorem m_tRet (te : TE) (nx : St → Hp → Prop) (rt : VK) (bk ct : St → Hp → Prop) (σ : St) (H : Hp) : (tRet te ⟨nx, rt, bk, ct⟩ σ H) = (te σ H rt) := rfl
def kDrop (nx : St → Hp → Prop) (σ : St) : VK := fun x H => nx σ H
theorem m_kDrop (nx : St → Hp → Prop) (σ : St) (x : V) (H : Hp) : (kDrop nx σ x H) = (nx σ H) := rfl
theorem m_tDrop (te : TE) (nx : St → Hp → Prop) (rt : VK) (bk ct : St → Hp → Prop) (σ : St) (H : Hp) : (tDrop te ⟨nx, rt, bk, ct⟩ σ H) = (te σ H (kDrop nx σ)) := rfl
def kIfS (t u : TS) (D : Ends) (σ : St) : Bool → Hp → Prop := fun b H => if b = true then t D σ H else u D σ H
theorem m_kIfS (t u : TS) (D : Ends) (σ : St) (b : Bool) (H : Hp) : (kIfS t u D σ b H) = (if b = true then t D σ H else u D σ H) := rfl
theorem m_tIfS (c : TT) (t u : TS) (D : Ends) (σ : St) (H : Hp) : (tIfS c t u D σ H) = (c σ H (kIfS t u D σ)) := rfl
def kAsg (g : TG) (σ : St) (nx : St → Hp → Prop) : VK := fun x H => g x σ H nx
theorem m_kAsg (g : TG) (σ : St) (nx : St → Hp → Prop) (x : V) (H : Hp) : (kAsg g σ nx x H) = (g x σ H nx) := rfl
theorem m_tAsg (te : TE) (g : TG) (nx : St → Hp → Prop) (rt : VK) (bk ct : St → Hp → Prop) (σ : St) (H : Hp) : (tAsg te g ⟨nx, rt, bk, ct⟩ σ H) = (te σ H (kAsg g σ nx)) := rfl
def kGs (u : TGs) (r : List V) (Q : St → Hp → Prop) : St → Hp → Prop := fun σ' H' => u r σ' H' Q
theorem m_kGs (u : TGs) (r : List V) (Q : St → Hp → Prop) (σ : St) (H : Hp) : (kGs u r Q σ H) = (u r σ H Q) := rfl
end L2
set_option Elab.async false
set_option linter.all false
set_option maxRecDepth 100000
set_option maxHeartbeats 4000000
namespace L2
open PySem PySem.Spec PyProof.Rows
section
variable {X : Cx}
theorem OpR.mono {f : Value → Value → Sem Value} {r r' : R2} (h : OpR X f r) (m : ∀ x y H Q, r' x y H Q → r x y H Q) : OpR X f r' := fun pins s σ H x y v u Q I rx ry hq => h pins s σ H x y v u Q I rx ry (m _ _ _ _ hq)
theorem CallR.mono {f : Value} {r r' : List V → Hp → VK → Prop} (h : CallR X f r) (m : ∀ xs H Q, r' xs H Q → r xs H Q) : CallR X f r' := fun pins s σ H xs us Q I rx hq => h pins s σ H xs us Q I rx (m _ _ _ hq)
theorem IxR.mono {r r' : R2} (h : IxR X r) (m : ∀ x y H Q, r' x y H Q → r x y H Q) : IxR X r' := fun a b pins s σ H x y v u Q I rx ry hq => h a b pins s σ H x y v u Q I rx ry (m _ _ _ _ hq)
theorem SlR.mono {r r' : V → Option Int → Option Int → Hp → VK → Prop} (h : SlR X r) (m : ∀ x lo hi H Q, r' x lo hi H Q → r x lo hi H Q) : SlR X r' := fun pins s σ H x v vl vu lo hi sl Q I rx a b c hq => h pins s σ H x v vl vu lo hi sl Q I rx a b c (m _ _ _ _ _ hq)
theorem PG.mono {tg : Expr} {g g' : TG} (h : PG X tg g) (m : ∀ v σ H Q, g' v σ H Q → g v σ H Q) : PG X tg g' := fun pins s σ H v u Q I r hq => h pins s σ H v u Q I r (m _ _ _ _ hq)
theorem items_seq {K : PySem.W.Frag} {H : Hp} {p : Addr} {ys : List V} (h : itemsAt H p = some ys) : SqL K H p ys ∨ SqT K H p ys := by
  unfold itemsAt at h
  cases e : H p with
  | none => rw [e] at h; cases h
  | some o =>
    rw [e] at h
    have h' : seqO o = some ys := h
    cases o with
    | lst xs => cases h'; exact .inl (SqL.of e)
    | tup xs => cases h'; exact .inr (SqT.of e)
    | frz ob u =>
      cases u with
      | lst xs => cases h'; exact .inl (.inl (.inr ⟨ob, e⟩))
      | _ => cases h'
    | _ => cases h'
theorem lst_of {H : Hp} {p : Addr} {ys : List V} (h : lstAt H p = some ys) : H p = some (.lst ys) := by
  unfold lstAt at h
  cases e : H p with
  | none => rw [e] at h; cases h
  | some o =>
    rw [e] at h
    have h' : lstO o = some ys := h
    cases o with
    | lst xs => cases h'; rfl
    | _ => cases h'
theorem tup_of {H : Hp} {p : Addr} {ys : List V} (h : tupAt H p = some ys) : H p = some (.tup ys) := by
  unfold tupAt at h
  cases e : H p with
  | none => rw [e] at h; cases h
  | some o =>
    rw [e] at h
    have h' : tupO o = some ys := h
    cases o with
    | tup xs => cases h'; rfl
    | _ => cases h'
def kLen (H : Hp) (Q : VK) : List V → Prop := fun ys => Q (.int ys.length) H
theorem m_kLen (H : Hp) (Q : VK) (ys : List V) : kLen H Q ys = Q (.int ys.length) H := rfl
def qLen (xs : List V) (H : Hp) (Q : VK) : Prop := match xs with
  | [.ref p] => optK (itemsAt H p) (kLen H Q)
  | [.str z] => z.length ≤ sizeLine ∧ Q (.int z.length) H
  | _ => False
theorem m_qLen (p : Addr) (H : Hp) (Q : VK) : qLen [.ref p] H Q = optK (itemsAt H p) (kLen H Q) := rfl
theorem call_qLen : CallR X (.builtin "len") qLen := by
  refine (call_len_seq.or call_len_str).mono fun xs H Q h => ?_
  unfold qLen at h
  split at h
  · rename_i p
    obtain ⟨ys, e, q⟩ := optK_ex h
    exact .inl ⟨p, ys, rfl, items_seq e, q⟩
  · rename_i z
    exact .inr ⟨z, rfl, h.1, h.2⟩
  · exact h.elim
def kIx' (H : Hp) (Q : VK) : V → Prop := fun v => Q v H
theorem m_kIx' (H : Hp) (Q : VK) (v : V) : kIx' H Q v = Q v H := rfl
def kIx (i : Int) (H : Hp) (Q : VK) : List V → Prop := fun ys => optK (atI ys i) (kIx' H Q)
theorem m_kIx (i : Int) (H : Hp) (Q : VK) (ys : List V) : kIx i H Q ys = optK (atI ys i) (kIx' H Q) := rfl
def qIx : R2 := fun x y H Q => match x, y with
  | .ref p, .int i => optK (itemsAt H p) (kIx i H Q)
  | _, _ => False
theorem m_qIx (p : Addr) (i : Int) (H : Hp) (Q : VK) : qIx (.ref p) (.int i) H Q = optK (itemsAt H p) (kIx i H Q) := rfl
theorem ix_q : IxR X qIx := by
  refine (ix_list.or ix_tup).mono fun x y H Q h => ?_
  unfold qIx at h
  split at h
  · rename_i p i
    obtain ⟨ys, e, q⟩ := optK_ex h
    obtain ⟨v, e2, q2⟩ := optK_ex q
    rcases items_seq (K := X.K) e with z | z
    · exact .inl ⟨p, ys, i, v, rfl, rfl, z, e2, q2⟩
    · exact .inr ⟨p, ys, i, v, rfl, rfl, z, e2, q2⟩
  · exact h.elim
theorem atI_0 {α : Type} (a : α) (xs : List α) : atI (a :: xs) 0 = some a := atI_nat (j := 0) rfl
theorem atI_1 {α : Type} (a b : α) (xs : List α) : atI (a :: b :: xs) 1 = some b := atI_nat (j := 1) rfl
def kNewL (H : Hp) (Q : VK) : List V → Prop := fun ys => ∀ l, H l = none → Q (.ref l) (upd H l (.lst ys))
def qList (xs : List V) (H : Hp) (Q : VK) : Prop := match xs with
  | [.ref p] => optK (itemsAt H p) (kNewL H Q)
  | _ => False
theorem call_qList : CallR X (.type "list") qList := by
  refine call_list_of.mono fun xs H Q h => ?_
  unfold qList at h
  split at h
  · rename_i p
    obtain ⟨ys, e, q⟩ := optK_ex h
    exact ⟨p, ys, rfl, items_seq e, q⟩
  · exact h.elim
def kTupO (p : Addr) (H : Hp) (Q : VK) : HO → Prop := fun o => match o with
  | .lst ys => ∀ l, H l = none → Q (.ref l) (upd H l (.tup ys))
  | .tup _ => Q (.ref p) H
  | _ => False
def qTuple (xs : List V) (H : Hp) (Q : VK) : Prop := match xs with
  | [.ref p] => optK (H p) (kTupO p H Q)
  | _ => False
theorem call_qTuple : CallR X (.type "tuple") qTuple := by
  refine call_tuple_of.mono fun xs H Q h => ?_
  unfold qTuple at h
  split at h
  · rename_i p
    obtain ⟨o, e, q⟩ := optK_ex h
    unfold kTupO at q
    split at q
    · rename_i ys; exact ⟨p, ys, rfl, .inl ⟨SqL.of e, q⟩⟩
    · rename_i ys; exact ⟨p, ys, rfl, .inr ⟨SqT.of e, q⟩⟩
    · exact q.elim
  · exact h.elim
def qStr (xs : List V) (H : Hp) (Q : VK) : Prop := match xs with
  | [.int i] => i.natAbs.log2 < 1920 ∧ Q (.str (toString i)) H
  | _ => False
theorem m_qStr (i : Int) (H : Hp) (Q : VK) : qStr [.int i] H Q = (i.natAbs.log2 < 1920 ∧ Q (.str (toString i)) H) := rfl
theorem call_qStr : CallR X (.type "str") qStr := by
  refine call_str_int.mono fun xs H Q h => ?_
  unfold qStr at h
  split at h
  · rename_i i; exact ⟨i, rfl, h.1, h.2⟩
  · exact h.elim
def tyO : HO → Option String
  | .lst _ => some "list"
  | .tup _ => some "tuple"
  | .frz _ (.lst _) => some "list"
  | .dK _ => some "dict"
  | .dT _ => some "dict"
  | _ => none
theorem tyO_lst (xs : List V) : tyO (.lst xs) = some "list" := rfl
theorem tyO_tup (xs : List V) : tyO (.tup xs) = some "tuple" := rfl
theorem tyO_dK (xs : List (Key × V)) : tyO (.dK xs) = some "dict" := rfl
def tyN (H : Hp) : V → Option String
  | .non => some "NoneType"
  | .bl _ => some "bool"
  | .int _ => some "int"
  | .str _ => some "str"
  | .ref p => (H p).bind tyO
  | _ => none
theorem tyN_non (H : Hp) : tyN H .non = some "NoneType" := rfl
theorem tyN_bl (H : Hp) (b : Bool) : tyN H (.bl b) = some "bool" := rfl
theorem tyN_int (H : Hp) (i : Int) : tyN H (.int i) = some "int" := rfl
theorem tyN_str (H : Hp) (x : Str) : tyN H (.str x) = some "str" := rfl
theorem tyN_ref (H : Hp) (p : Addr) : tyN H (.ref p) = (H p).bind tyO := rfl
theorem tyN_ok {K : PySem.W.Frag} {H : Hp} {x : V} {t : String} (h : tyN H x = some t) : TyOf K H x (.type t) := by
  cases x with
  | non => cases h; exact .non
  | bl b => cases h; exact .bl b
  | int i => cases h; exact .int i
  | str x => cases h; exact .str x
  | ref p =>
    have h' : (H p).bind tyO = some t := h
    cases e : H p with
    | none => rw [e] at h'; cases h'
    | some o =>
      rw [e] at h'
      have h2 : tyO o = some t := h'
      cases o with
      | lst xs => cases h2; exact .lst e
      | tup xs => cases h2; exact .tup e
      | dK xs => cases h2; exact .dK e
      | dT xs => cases h2; exact .dT e
      | frz ob u =>
        cases u with
        | lst xs => cases h2; exact .frz e
        | _ => cases h2
      | _ => cases h2
  | _ => cases h
def kTypes : List String := ["NoneType", "bool", "int", "str", "list", "tuple", "dict"]
def isiN (t n : String) : Bool := t == n || (t == "bool" && n == "int")
theorem kit_isiN (K : PySem.W.Frag) : ∀ t ∈ kTypes, ∀ n ∈ kTypes, PySem.W.kitOne K (.type t) (.type n) = some (isiN t n) := by
  intro t ht n hn
  unfold kTypes at ht hn
  simp only [List.mem_cons, List.not_mem_nil, or_false] at ht hn
  rcases ht with rfl | rfl | rfl | rfl | rfl | rfl | rfl <;> rcases hn with rfl | rfl | rfl | rfl | rfl | rfl | rfl <;> exact kitOne_ty K _ _ _ (by decide +kernel)
def kIsi (n : String) (H : Hp) (Q : VK) : String → Prop := fun t => t ∈ kTypes ∧ Q (.bl (isiN t n)) H
def qIsi (xs : List V) (H : Hp) (Q : VK) : Prop := match xs with
  | [x, .ty n] => n ∈ kTypes ∧ optK (tyN H x) (kIsi n H Q)
  | _ => False
theorem call_qIsi : CallR X (.builtin "isinstance") qIsi := by
  refine call_isi.mono fun xs H Q h => ?_
  unfold qIsi at h
  split at h
  · rename_i x n
    obtain ⟨hn, h⟩ := h
    obtain ⟨t, e, ht, q⟩ := optK_ex h
    exact ⟨x, n, _, _, rfl, tyN_ok e, kit_isiN _ t ht n hn, q⟩
  · exact h.elim
theorem m_qIsi_int (x : V) (H : Hp) (Q : VK) : qIsi [x, .ty "int"] H Q = optK (tyN H x) (kIsi "int" H Q) := by
  unfold qIsi; exact propext ⟨fun h => h.2, fun h => ⟨by decide, h⟩⟩
theorem m_qIsi_bool (x : V) (H : Hp) (Q : VK) : qIsi [x, .ty "bool"] H Q = optK (tyN H x) (kIsi "bool" H Q) := by
  unfold qIsi; exact propext ⟨fun h => h.2, fun h => ⟨by decide, h⟩⟩
theorem m_qIsi_tuple (x : V) (H : Hp) (Q : VK) : qIsi [x, .ty "tuple"] H Q = optK (tyN H x) (kIsi "tuple" H Q) := by
  unfold qIsi; exact propext ⟨fun h => h.2, fun h => ⟨by decide, h⟩⟩
theorem m_qIsi_list (x : V) (H : Hp) (Q : VK) : qIsi [x, .ty "list"] H Q = optK (tyN H x) (kIsi "list" H Q) := by
  unfold qIsi; exact propext ⟨fun h => h.2, fun h => ⟨by decide, h⟩⟩
theorem m_kIsi_Ni (H : Hp) (Q : VK) : kIsi "int" H Q "NoneType" = Q (.bl false) H := propext ⟨fun h => h.2, fun h => ⟨by decide, h⟩⟩
theorem m_kIsi_Nl (H : Hp) (Q : VK) : kIsi "list" H Q "NoneType" = Q (.bl false) H := propext ⟨fun h => h.2, fun h => ⟨by decide, h⟩⟩
theorem m_kIsi_Nt (H : Hp) (Q : VK) : kIsi "tuple" H Q "NoneType" = Q (.bl false) H := propext ⟨fun h => h.2, fun h => ⟨by decide, h⟩⟩
theorem m_kIsi_bb (H : Hp) (Q : VK) : kIsi "bool" H Q "bool" = Q (.bl true) H := propext ⟨fun h => h.2, fun h => ⟨by decide, h⟩⟩
theorem m_kIsi_bi (H : Hp) (Q : VK) : kIsi "int" H Q "bool" = Q (.bl true) H := propext ⟨fun h => h.2, fun h => ⟨by decide, h⟩⟩
theorem m_kIsi_bl (H : Hp) (Q : VK) : kIsi "list" H Q "bool" = Q (.bl false) H := propext ⟨fun h => h.2, fun h => ⟨by decide, h⟩⟩
theorem m_kIsi_bt (H : Hp) (Q : VK) : kIsi "tuple" H Q "bool" = Q (.bl false) H := propext ⟨fun h => h.2, fun h => ⟨by decide, h⟩⟩
theorem m_kIsi_ib (H : Hp) (Q : VK) : kIsi "bool" H Q "int" = Q (.bl false) H := propext ⟨fun h => h.2, fun h => ⟨by decide, h⟩⟩
theorem m_kIsi_ii (H : Hp) (Q : VK) : kIsi "int" H Q "int" = Q (.bl true) H := propext ⟨fun h => h.2, fun h => ⟨by decide, h⟩⟩
theorem m_kIsi_il (H : Hp) (Q : VK) : kIsi "list" H Q "int" = Q (.bl false) H := propext ⟨fun h => h.2, fun h => ⟨by decide, h⟩⟩
theorem m_kIsi_it (H : Hp) (Q : VK) : kIsi "tuple" H Q "int" = Q (.bl false) H := propext ⟨fun h => h.2, fun h => ⟨by decide, h⟩⟩
theorem m_kIsi_si (H : Hp) (Q : VK) : kIsi "int" H Q "str" = Q (.bl false) H := propext ⟨fun h => h.2, fun h => ⟨by decide, h⟩⟩
theorem m_kIsi_sl (H : Hp) (Q : VK) : kIsi "list" H Q "str" = Q (.bl false) H := propext ⟨fun h => h.2, fun h => ⟨by decide, h⟩⟩
theorem m_kIsi_st (H : Hp) (Q : VK) : kIsi "tuple" H Q "str" = Q (.bl false) H := propext ⟨fun h => h.2, fun h => ⟨by decide, h⟩⟩
theorem m_kIsi_li (H : Hp) (Q : VK) : kIsi "int" H Q "list" = Q (.bl false) H := propext ⟨fun h => h.2, fun h => ⟨by decide, h⟩⟩
theorem m_kIsi_ll (H : Hp) (Q : VK) : kIsi "list" H Q "list" = Q (.bl true) H := propext ⟨fun h => h.2, fun h => ⟨by decide, h⟩⟩
theorem m_kIsi_lt (H : Hp) (Q : VK) : kIsi "tuple" H Q "list" = Q (.bl false) H := propext ⟨fun h => h.2, fun h => ⟨by decide, h⟩⟩
theorem m_kIsi_ti (H : Hp) (Q : VK) : kIsi "int" H Q "tuple" = Q (.bl false) H := propext ⟨fun h => h.2, fun h => ⟨by decide, h⟩⟩
theorem m_kIsi_tl (H : Hp) (Q : VK) : kIsi "list" H Q "tuple" = Q (.bl false) H := propext ⟨fun h => h.2, fun h => ⟨by decide, h⟩⟩
theorem m_kIsi_tt (H : Hp) (Q : VK) : kIsi "tuple" H Q "tuple" = Q (.bl true) H := propext ⟨fun h => h.2, fun h => ⟨by decide, h⟩⟩
theorem m_kIsi_di (H : Hp) (Q : VK) : kIsi "int" H Q "dict" = Q (.bl false) H := propext ⟨fun h => h.2, fun h => ⟨by decide, h⟩⟩
theorem m_kIsi_dl (H : Hp) (Q : VK) : kIsi "list" H Q "dict" = Q (.bl false) H := propext ⟨fun h => h.2, fun h => ⟨by decide, h⟩⟩
theorem m_kIsi_dt (H : Hp) (Q : VK) : kIsi "tuple" H Q "dict" = Q (.bl false) H := propext ⟨fun h => h.2, fun h => ⟨by decide, h⟩⟩
def kBM' (r : V → List V → Hp → VK → Prop) (x : V) (Q : VK) : List V → Hp → Prop := fun xs H => r x xs H Q
theorem m_kBM' (r : V → List V → Hp → VK → Prop) (x : V) (Q : VK) (xs : List V) (H : Hp) : kBM' r x Q xs H = r x xs H Q := rfl
def kBM (K : PySem.W.Frag) (T : String) (r : V → List V → Hp → VK → Prop) (t : TA) (σ : St) (Q : VK) : VK := fun x H => tyV K T x H ∧ t σ H (kBM' r x Q)
theorem m_kBM (K : PySem.W.Frag) (T : String) (r : V → List V → Hp → VK → Prop) (t : TA) (σ : St) (Q : VK) (x : V) (H : Hp) : kBM K T r t σ Q x H = (tyV K T x H ∧ t σ H (kBM' r x Q)) := rfl
theorem m_tBM (K : PySem.W.Frag) (T : String) (r : V → List V → Hp → VK → Prop) (to : TE) (t : TA) (σ : St) (H : Hp) (Q : VK) : tBM K T r to t σ H Q = to σ H (kBM K T r t σ Q) := rfl
def kBM0 (K : PySem.W.Frag) (T : String) (r : V → List V → Hp → VK → Prop) (Q : VK) : VK := fun x H => tyV K T x H ∧ r x [] H Q
theorem m_kBM0 (K : PySem.W.Frag) (T : String) (r : V → List V → Hp → VK → Prop) (Q : VK) (x : V) (H : Hp) : kBM0 K T r Q x H = (tyV K T x H ∧ r x [] H Q) := rfl
theorem m_tBM0 (K : PySem.W.Frag) (T : String) (r : V → List V → Hp → VK → Prop) (to : TE) (σ : St) (H : Hp) (Q : VK) : tBM0 K T r to σ H Q = to σ H (kBM0 K T r Q) := rfl
theorem tyV_list (K : PySem.W.Frag) (p : Addr) (H : Hp) (h : (lstAt H p).isSome = true) : tyV K "list" (.ref p) H = True := by
  cases e : lstAt H p with
  | none => rw [e] at h; cases h
  | some ys => exact eq_true (.inl ⟨rfl, ys, SqL.of (lst_of e)⟩)
def kApp (l : Addr) (y : V) (H : Hp) (Q : VK) : List V → Prop := fun xs => xs.length < sizeLine ∧ Q .non (upd H l (.lst (xs ++ [y])))
theorem m_kApp (l : Addr) (y : V) (H : Hp) (Q : VK) (xs : List V) : kApp l y H Q xs = (xs.length < sizeLine ∧ Q .non (upd H l (.lst (xs ++ [y])))) := rfl
theorem m_rAppend (l : Addr) (y : V) (H : Hp) (Q : VK) : rAppend (.ref l) [y] H Q = optK (lstAt H l) (kApp l y H Q) := by
  refine propext ⟨fun h => ?_, fun h => ?_⟩
  · obtain ⟨_, xs, _, e1, e2, e3, a, b⟩ := h
    cases e1; cases e2
    have e : lstAt H l = some xs := by unfold lstAt; rw [e3]; rfl
    rw [e]; exact ⟨a, b⟩
  · obtain ⟨xs, e, a, b⟩ := optK_ex h
    exact ⟨l, xs, y, rfl, rfl, lst_of e, a, b⟩
def kRev (l : Addr) (H : Hp) (Q : VK) : List V → Prop := fun xs => Q .non (upd H l (.lst xs.reverse))
theorem m_kRev (l : Addr) (H : Hp) (Q : VK) (xs : List V) : kRev l H Q xs = Q .non (upd H l (.lst xs.reverse)) := rfl
theorem m_rReverse (l : Addr) (H : Hp) (Q : VK) : rReverse (.ref l) [] H Q = optK (lstAt H l) (kRev l H Q) := by
  refine propext ⟨fun h => ?_, fun h => ?_⟩
  · obtain ⟨_, xs, e1, _, e3, b⟩ := h
    cases e1
    have e : lstAt H l = some xs := by unfold lstAt; rw [e3]; rfl
    rw [e]; exact b
  · obtain ⟨xs, e, b⟩ := optK_ex h
    exact ⟨l, xs, rfl, rfl, lst_of e, b⟩
def kCat2 (xs : List V) (H : Hp) (Q : VK) : List V → Prop := fun ys => xs.length + ys.length ≤ sizeLine ∧ ∀ p, H p = none → Q (.ref p) (upd H p (.lst (xs ++ ys)))
def kCat1 (b : Addr) (H : Hp) (Q : VK) : List V → Prop := fun xs => optK (lstAt H b) (kCat2 xs H Q)
theorem m_rCat (l b : Addr) (H : Hp) (Q : VK) : rCat (.ref l) (.ref b) H Q = optK (lstAt H l) (kCat1 b H Q) := by
  refine propext ⟨fun h => ?_, fun h => ?_⟩
  · obtain ⟨l', b', xs, zs, e1, e2, e3, e4, hz, hq⟩ := h
    cases e1; cases e2
    have e : lstAt H l = some xs := by unfold lstAt; rw [e3]; rfl
    have e' : lstAt H b = some zs := by unfold lstAt; rw [e4]; rfl
    rw [e]
    show optK (lstAt H b) _
    rw [e']; exact ⟨hz, hq⟩
  · obtain ⟨xs, e, q⟩ := optK_ex h
    obtain ⟨zs, e', a, q⟩ := optK_ex q
    exact ⟨l, b, xs, zs, rfl, rfl, lst_of e, lst_of e', a, q⟩
def kSet' (p : Addr) (xs : List V) (v : V) (H : Hp) (Q : Hp → Prop) : Nat → Prop := fun j => Q (upd H p (.lst (xs.set j v)))
theorem m_kSet' (p : Addr) (xs : List V) (v : V) (H : Hp) (Q : Hp → Prop) (j : Nat) : kSet' p xs v H Q j = Q (upd H p (.lst (xs.set j v))) := rfl
def kSet (p : Addr) (i : Int) (v : V) (H : Hp) (Q : Hp → Prop) : List V → Prop := fun xs => optK (ixN xs.length i) (kSet' p xs v H Q)
theorem m_kSet (p : Addr) (i : Int) (v : V) (H : Hp) (Q : Hp → Prop) (xs : List V) : kSet p i v H Q xs = optK (ixN xs.length i) (kSet' p xs v H Q) := rfl
theorem m_rSetL (p : Addr) (i : Int) (v : V) (H : Hp) (Q : Hp → Prop) : rSetL (.ref p) (.int i) v H Q = optK (lstAt H p) (kSet p i v H Q) := by
  refine propext ⟨fun h => ?_, fun h => ?_⟩
  · obtain ⟨_, xs, _, j, e1, e2, e3, e4, b⟩ := h
    cases e1; cases e2
    have e : lstAt H p = some xs := by unfold lstAt; rw [e3]; rfl
    rw [e]
    show optK (ixN xs.length i) _
    rw [e4]; exact b
  · obtain ⟨xs, e, q⟩ := optK_ex h
    obtain ⟨j, e4, q⟩ := optK_ex q
    exact ⟨p, xs, i, j, rfl, rfl, lst_of e, e4, q⟩
def kGSub3 (t : TSet) (o v : V) (σ : St) (Q : St → Hp → Prop) : VK := fun i H => t o i v H fun H3 => Q σ H3
theorem m_kGSub3 (t : TSet) (o v : V) (σ : St) (Q : St → Hp → Prop) (i : V) (H : Hp) : kGSub3 t o v σ Q i H = t o i v H (Q σ) := rfl
def kGSub2 (ti : TE) (t : TSet) (v : V) (σ : St) (Q : St → Hp → Prop) : VK := fun o H => ti σ H (kGSub3 t o v σ Q)
theorem m_kGSub2 (ti : TE) (t : TSet) (v : V) (σ : St) (Q : St → Hp → Prop) (o : V) (H : Hp) : kGSub2 ti t v σ Q o H = ti σ H (kGSub3 t o v σ Q) := rfl
theorem m_gSub (to ti : TE) (t : TSet) (v : V) (σ : St) (H : Hp) (Q : St → Hp → Prop) : gSub to ti t v σ H Q = to σ H (kGSub2 ti t v σ Q) := rfl
def kGT (n : Nat) (t : TGs) (σ : St) (H : Hp) (Q : St → Hp → Prop) : List V → Prop := fun xs => xs.length = n ∧ t xs σ H Q
theorem m_kGT (n : Nat) (t : TGs) (σ : St) (H : Hp) (Q : St → Hp → Prop) (xs : List V) : kGT n t σ H Q xs = (xs.length = n ∧ t xs σ H Q) := rfl
def qGT (n : Nat) (t : TGs) : TG := fun v σ H Q => match v with
  | .ref a => optK (tupAt H a) (kGT n t σ H Q)
  | _ => False
theorem m_qGT (n : Nat) (t : TGs) (a : Addr) (σ : St) (H : Hp) (Q : St → Hp → Prop) : qGT n t (.ref a) σ H Q = optK (tupAt H a) (kGT n t σ H Q) := rfl
theorem gTup_q {K : PySem.W.Frag} {n : Nat} {t : TGs} {v : V} {σ : St} {H : Hp} {Q : St → Hp → Prop} (h : qGT n t v σ H Q) : gTup K n t v σ H Q := by
  unfold qGT at h
  split at h
  · rename_i a
    obtain ⟨xs, e, hl, q⟩ := optK_ex h
    exact ⟨a, xs, rfl, SqT.of (tup_of e), hl, q⟩
  · exact h.elim
def kBody (tb : TS) (D : Ends) : St → Hp → Prop := fun σ H => tb D σ H
theorem m_kBody (tb : TS) (D : Ends) (σ : St) (H : Hp) : kBody tb D σ H = tb D σ H := rfl
def kFor (g : TG) (tb : TS) (D : Ends) (σ : St) (J : It) (H1 : Hp) : Prop := ∃ W : Nat → Nat → St → Hp → Prop, (∃ m, W 0 m σ H1) ∧ ∀ i m σ H, W i m σ H →
  (J.stop i H ∧ D.nx σ H) ∨ (J.go i H ∧ ∃ N : St → Hp → Prop, (∀ σ' H', N σ' H' → ∃ m', m' < m ∧ W (i + 1) m' σ' H') ∧ ∀ x H', J.yld i H x H' → g x σ H' fun σ2 H2 => tb { D with nx := N, ct := N, bk := D.nx } σ2 H2)
theorem m_tFor (wi : TI) (g : TG) (tb : TS) (D : Ends) (σ : St) (H : Hp) : tFor wi g tb D σ H = wi σ H (kFor g tb D σ) := rfl
def kR1 (R : It → Hp → Prop) : List V → Hp → Prop := fun vs H => ∃ j : Int, vs = [.int j] ∧ -(2 ^ 62) ≤ j ∧ j < 2 ^ 62 ∧ R (Itr 0 j.toNat) H
theorem m_kR1 (R : It → Hp → Prop) (j : Int) (H : Hp) : kR1 R [.int j] H = (-(2 ^ 62) ≤ j ∧ j < 2 ^ 62 ∧ R (Itr 0 j.toNat) H) := propext ⟨fun ⟨_, e, q⟩ => by cases e; exact q, fun q => ⟨j, rfl, q⟩⟩
theorem m_iRng1 (ta : TA) (σ : St) (H : Hp) (R : It → Hp → Prop) : iRng1 ta σ H R = ta σ H (kR1 R) := rfl
def kISq' (K : PySem.W.Frag) (a : Addr) (H : Hp) (R : It → Hp → Prop) : HO → Prop := fun o => match o with
  | .lst _ => R (Itl K a) H
  | .frz _ (.lst _) => R (Itl K a) H
  | .tup _ => R (Itt K a) H
  | _ => False
theorem m_kISq'_l (K : PySem.W.Frag) (a : Addr) (H : Hp) (R : It → Hp → Prop) (xs : List V) : kISq' K a H R (.lst xs) = R (Itl K a) H := rfl
theorem m_kISq'_t (K : PySem.W.Frag) (a : Addr) (H : Hp) (R : It → Hp → Prop) (xs : List V) : kISq' K a H R (.tup xs) = R (Itt K a) H := rfl
def kISq (K : PySem.W.Frag) (R : It → Hp → Prop) : VK := fun x H => match x with
  | .ref a => optK (H a) (kISq' K a H R)
  | _ => False
theorem m_kISq (K : PySem.W.Frag) (R : It → Hp → Prop) (a : Addr) (H : Hp) : kISq K R (.ref a) H = optK (H a) (kISq' K a H R) := rfl
def iSeq (K : PySem.W.Frag) (tl : TE) : TI := fun σ H R => tl σ H (kISq K R)
theorem m_iSeq (K : PySem.W.Frag) (tl : TE) (σ : St) (H : Hp) (R : It → Hp → Prop) : iSeq K tl σ H R = tl σ H (kISq K R) := rfl
theorem pi_seq {tg l : Expr} {tl : TE} (hl : PE X l tl) : PI X tg l (iSeq X.K tl) := by
  intro pins s σ H R I h
  refine thn (hl pins s σ H _ I h) fun v s1 ⟨x, H1, I1, r1, q1⟩ => ?_
  unfold kISq at q1
  split at q1
  · rename_i a
    cases r1
    obtain ⟨o, e, q⟩ := optK_ex q1
    have fp : ∀ b ∈ [s1.heap.objs.size], FpOk X pins H1 b := fun b hb => by
      have e : b = s1.heap.objs.size := by simpa using hb
      subst e
      exact I1.fpOk (Nat.le_refl _) (I1.hok.fresh (Nat.le_refl _))
    have lst : ∀ xs, SqL X.K H1 a xs → R (Itl X.K a) H1 → wpAny (model X.prog X.w) X.A (pyIter (.ref a)) (PIE X pins σ tg R) X.xe s1 := fun xs hq q => by
      obtain ⟨its, rv, p, hz⟩ := I1.list hq
      refine wpAny_pyIter_list p.isList ?_
      exact ⟨s1.heap.objs.size, [s1.heap.objs.size], _, _, H1, rfl, I1.kept (t' := s1.toks) fun b o e => Heap.get?_push_of_some _ e, turn_list a _, ⟨_, Heap.get?_push_size _ rfl, rfl, rfl⟩, fp, q⟩
    unfold kISq' at q
    split at q
    · exact lst _ (SqL.of e) q
    · exact lst _ (.inl (.inr ⟨_, e⟩)) q
    · obtain ⟨its, rv, p, hz⟩ := I1.tuple (SqT.of e)
      refine wpAny_pyIter_tuple (show s1.heap.IsTuple a its.toArray from p) ?_
      exact ⟨s1.heap.objs.size, [s1.heap.objs.size], _, _, H1, rfl, I1.kept (t' := s1.toks) fun b o e => Heap.get?_push_of_some _ e, turn_tuple a _, ⟨_, Heap.get?_push_size _ rfl, rfl, rfl⟩, fp, q⟩
    · exact q.elim
  · exact q1.elim
theorem for_rng {lo : Int} {n : Nat} {g : TG} {tb : TS} {nx : St → Hp → Prop} {rt : VK} {bk ct : St → Hp → Prop} {σ : St} {H : Hp} (Pv : Nat → St → Hp → Prop) (h0 : Pv 0 σ H)
    (hs : ∀ i σ H, i < n → Pv i σ H → g (.int (lo + i)) σ H (kBody tb ⟨Pv (i + 1), rt, nx, Pv (i + 1)⟩)) (hd : ∀ σ H, Pv n σ H → nx σ H) : kFor g tb ⟨nx, rt, bk, ct⟩ σ (Itr lo n) H := for_range Pv h0 hs hd
theorem for_lst {K : PySem.W.Frag} {a : Addr} {xs : List V} {g : TG} {tb : TS} {nx : St → Hp → Prop} {rt : VK} {bk ct : St → Hp → Prop} {σ : St} {H : Hp} (Pv : Nat → St → Hp → Prop) (h0 : Pv 0 σ H) (hl : ∀ i σ H, i ≤ xs.length → Pv i σ H → H a = some (.lst xs))
    (hs : ∀ i x σ H, xs[i]? = some x → Pv i σ H → g x σ H (kBody tb ⟨Pv (i + 1), rt, nx, Pv (i + 1)⟩)) (hd : ∀ σ H, Pv xs.length σ H → nx σ H) : kFor g tb ⟨nx, rt, bk, ct⟩ σ (Itl K a) H := for_list (xs := xs) Pv h0 (fun i σ H hi p => SqL.of (hl i σ H hi p)) hs hd
def kWh (tb : TS) (nx : St → Hp → Prop) (rt : VK) (Pv : Nat → St → Hp → Prop) (m : Nat) (σ : St) : Bool → Hp → Prop := fun b H => if b = true then tb ⟨fun σ' H' => ∃ m', m' < m ∧ Pv m' σ' H', rt, nx, fun σ' H' => ∃ m', m' < m ∧ Pv m' σ' H'⟩ σ H else nx σ H
theorem m_kWh (tb : TS) (nx : St → Hp → Prop) (rt : VK) (Pv : Nat → St → Hp → Prop) (m : Nat) (σ : St) (b : Bool) (H : Hp) : kWh tb nx rt Pv m σ b H = (if b = true then tb ⟨fun σ' H' => ∃ m', m' < m ∧ Pv m' σ' H', rt, nx, fun σ' H' => ∃ m', m' < m ∧ Pv m' σ' H'⟩ σ H else nx σ H) := rfl
theorem while_m {c : TT} {tb : TS} {nx : St → Hp → Prop} {rt : VK} {bk ct : St → Hp → Prop} {σ : St} {H : Hp} (Pv : Nat → St → Hp → Prop) (m0 : Nat) (h0 : Pv m0 σ H)
    (mono : ∀ σ H Q Q', (∀ b H1, Q b H1 → Q' b H1) → c σ H Q → c σ H Q')
    (hs : ∀ m σ H, Pv m σ H → c σ H (kWh tb nx rt Pv m σ)) : tWhile c tb ⟨nx, rt, bk, ct⟩ σ H := by
  refine ⟨Pv, ⟨m0, h0⟩, fun m σ H p => mono σ H _ _ (fun b H1 q => ?_) (hs m σ H p)⟩
  unfold kWh at q
  cases b with
  | true => exact ⟨_, fun σ' H' z => z, q⟩
  | false => exact q
end
end L2
set_option Elab.async false
set_option linter.all false
set_option maxRecDepth 100000
set_option maxHeartbeats 4000000
namespace L2
open PySem PySem.Spec PyProof.Rows
theorem m_tCallX (sp : Sp) (dvs : List V) (E : St → XK) (t : TA) (σ : St) (H : Hp) (Q : VK) : tCallX sp dvs E t σ H Q = t σ H (kCall sp dvs (E σ) Q) := rfl
def kTry (th : Value → Option Addr → TS) (D : Ends) : St → XK := fun σ cls d H => th cls d D σ H
theorem m_kTry (th : Value → Option Addr → TS) (D : Ends) (σ : St) (cls : Value) (d : Option Addr) (H : Hp) : kTry th D σ cls d H = th cls d D σ H := rfl
theorem m_tTry (tb : (St → XK) → TS) (th : Value → Option Addr → TS) (D : Ends) (σ : St) (H : Hp) : tTry tb th D σ H = tb (kTry th D) D σ H := rfl
def kRaise (C : Addr) (E : XK) : List V → Hp → Prop := fun vs H => vs.length ≤ sizeLine ∧ E (.ref C) none H
theorem m_kRaise (C : Addr) (E : XK) (vs : List V) (H : Hp) : kRaise C E vs H = (vs.length ≤ sizeLine ∧ E (.ref C) none H) := rfl
theorem m_tRaise (C : Addr) (E : St → XK) (t : TA) (D : Ends) (σ : St) (H : Hp) : tRaise C E t D σ H = t σ H (kRaise C (E σ)) := rfl
def kSetE (i : Nat) (tb : TS) (D : Ends) : St → Hp → Prop := fun σ H => tb D σ H
theorem m_kSetE (i : Nat) (tb : TS) (D : Ends) (σ : St) (H : Hp) : kSetE i tb D σ H = tb D σ H := rfl
def kExcAs (i : Nat) (tb : TS) (tr : Value → Option Addr → TS) (cls : Value) (d : Option Addr) (D : Ends) (σ : St) (H : Hp) : Bool → Prop := fun b => if b = true then ∀ (e : Addr) (oe : Obj), H e = none → oe.cls = cls → oe.dict = d → (∃ vs, oe.data = .fields vs) → gName i (.ref e) σ (upd H e (excO oe)) (kSetE i tb (D.del i)) else tr cls d D σ H
theorem m_kExcAs (i : Nat) (tb : TS) (tr : Value → Option Addr → TS) (cls : Value) (d : Option Addr) (D : Ends) (σ : St) (H : Hp) (b : Bool) : kExcAs i tb tr cls d D σ H b = (if b = true then ∀ (e : Addr) (oe : Obj), H e = none → oe.cls = cls → oe.dict = d → (∃ vs, oe.data = .fields vs) → gName i (.ref e) σ (upd H e (excO oe)) (kSetE i tb (D.del i)) else tr cls d D σ H) := rfl
theorem m_tExcAs (K : PySem.W.Frag) (C : Value) (i : Nat) (tb : TS) (tr : Value → Option Addr → TS) (cls : Value) (d : Option Addr) (D : Ends) (σ : St) (H : Hp) : tExcAs K C i tb tr cls d D σ H = optK (PySem.W.exmOne K cls C) (kExcAs i tb tr cls d D σ H) := by
  refine propext ⟨fun ⟨b, e, h⟩ => ?_, fun h => ?_⟩
  · rw [e]; exact h
  · obtain ⟨b, e, h⟩ := optK_ex h
    exact ⟨b, e, h⟩
theorem m_del (i : Nat) (nx : St → Hp → Prop) (rt : VK) (bk ct : St → Hp → Prop) : Ends.del i ⟨nx, rt, bk, ct⟩ = ⟨kDel i nx, rt, kDel i bk, kDel i ct⟩ := rfl
theorem m_dictO_none (H : Hp) : dictO H none = True := rfl
theorem m_dictO_some (H : Hp) (dx : Addr) : dictO H (some dx) = optK (H dx) kXd := by
  refine propext ⟨fun ⟨o, h, k⟩ => by rw [h]; exact k, fun h => ?_⟩
  obtain ⟨o, e, k⟩ := optK_ex h
  exact ⟨o, e, k⟩
theorem m_kXd (fs : List (Str × V)) : kXd (.xd fs) = True := rfl
def refC : Value → Option Addr
  | .ref C => some C
  | _ => none
theorem refC_ref (C : Addr) : refC (.ref C) = some C := rfl
def clsV : V → Option Value
  | .ref C => some (.ref C)
  | .ty n => some (.type n)
  | _ => none
theorem clsV_ref (C : Addr) : clsV (.ref C) = some (.ref C) := rfl
theorem clsV_ty (n : String) : clsV (.ty n) = some (.type n) := rfl
def kE4 (H : Hp) (Q : VK) : Bool → Prop := fun b => Q (.bl b) H
theorem m_kE4 (H : Hp) (Q : VK) (b : Bool) : kE4 H Q b = Q (.bl b) H := rfl
def kE3 (K : PySem.W.Frag) (C : Addr) (H : Hp) (Q : VK) : Value → Prop := fun u => optK (PySem.W.kitOne K (.ref C) u) (kE4 H Q)
theorem m_kE3 (K : PySem.W.Frag) (C : Addr) (H : Hp) (Q : VK) (u : Value) : kE3 K C H Q u = optK (PySem.W.kitOne K (.ref C) u) (kE4 H Q) := rfl
def kE2 (K : PySem.W.Frag) (oe : Obj) (D : V) (H : Hp) (Q : VK) : Addr → Prop := fun C => dictO H oe.dict ∧ (∃ vs, oe.data = .fields vs) ∧ ECls K C ∧ optK (clsV D) (kE3 K C H Q)
theorem m_kE2 (K : PySem.W.Frag) (oe : Obj) (D : V) (H : Hp) (Q : VK) (C : Addr) : kE2 K oe D H Q C = (dictO H oe.dict ∧ (∃ vs, oe.data = .fields vs) ∧ ECls K C ∧ optK (clsV D) (kE3 K C H Q)) := rfl
def kE1 (K : PySem.W.Frag) (D : V) (H : Hp) (Q : VK) : HO → Prop := fun o => match o with
  | .frz oe (.ext _) => optK (refC oe.cls) (kE2 K oe D H Q)
  | _ => False
theorem m_kE1 (K : PySem.W.Frag) (D : V) (H : Hp) (Q : VK) (oe : Obj) : kE1 K D H Q (excO oe) = optK (refC oe.cls) (kE2 K oe D H Q) := rfl
def qIsE (K : PySem.W.Frag) (xs : List V) (H : Hp) (Q : VK) : Prop := match xs with
  | [.ref e, D] => optK (H e) (kE1 K D H Q)
  | _ => False
theorem m_qIsE (K : PySem.W.Frag) (e : Addr) (D : V) (H : Hp) (Q : VK) : qIsE K [.ref e, D] H Q = optK (H e) (kE1 K D H Q) := rfl
theorem call_qIsE {X : Cx} : CallR X (.builtin "isinstance") (qIsE X.K) := by
  refine call_isiE.mono fun xs H Q h => ?_
  unfold qIsE at h
  split at h
  · rename_i e D
    obtain ⟨o, h1, h⟩ := optK_ex h
    unfold kE1 at h
    split at h
    · rename_i oe φ
      obtain ⟨C, h2, h⟩ := optK_ex h
      obtain ⟨h3, h4, h5, h⟩ := h
      obtain ⟨u, h6, h⟩ := optK_ex h
      obtain ⟨b, h7, h⟩ := optK_ex h
      have hc : oe.cls = .ref C := by
        cases q : oe.cls with
        | ref C' => rw [q] at h2; cases h2; rfl
        | _ => rw [q] at h2; cases h2
      refine ⟨e, oe, C, D, b, rfl, ⟨_, h1⟩, hc, h3, h4, h5, ⟨u, ?_, h7⟩, h⟩
      cases D with
      | ref a => cases h6; rfl
      | ty n => cases h6; rfl
      | _ => cases h6
    · exact h.elim
  · exact h.elim
def kC3 (D : Addr) (ys : List V) (N : List V → Hp → Prop) : VK := fun y H => H D = some (.lst ys) ∧ ys.length < sizeLine ∧ N (ys ++ [y]) (upd H D (.lst (ys ++ [y])))
def kC2 (te : TE) (σ2 : St) (D : Addr) (ys : List V) (N : List V → Hp → Prop) : Bool → Hp → Prop := fun b H => if b = true then te σ2 H (kC3 D ys N) else N ys H
def kC1 (k : Nat) (tt : TT) (te : TE) (σ : St) (D : Addr) (ys : List V) (N : List V → Hp → Prop) : St → Hp → Prop := fun σ2 H => (∃ vs : St, vs.length = k ∧ σ2 = vs ++ σ) ∧ tt σ2 H (kC2 te σ2 D ys N)
theorem m_tYes (σ : St) (H : Hp) (Q : Bool → Hp → Prop) : tYes σ H Q = Q true H := rfl
def kComp (k : Nat) (g : TG) (tt : TT) (te : TE) (σ : St) (Q : VK) : It → Hp → Prop := fun J H1 => ∀ D, H1 D = none → ∃ W : Nat → Nat → List V → Hp → Prop, (∃ m, W 0 m [] (upd H1 D (.lst []))) ∧ ∀ i m ys H, W i m ys H →
  (J.stop i H ∧ Q (.ref D) H) ∨ (J.go i H ∧ ∃ N : List V → Hp → Prop, (∀ ys' H', N ys' H' → ∃ m', m' < m ∧ W (i + 1) m' ys' H') ∧
    ∀ x H', J.yld i H x H' → g x (List.replicate k none ++ σ) H' (kC1 k tt te σ D ys N))
theorem m_tComp (k : Nat) (wi : TI) (g : TG) (tt : TT) (te : TE) (σ : St) (H : Hp) (Q : VK) : tComp k wi g tt te σ H Q = wi σ H (kComp k g tt te σ Q) := rfl
section
variable {k : Nat} {g : TG} {tt : TT} {te : TE} {σ : St} {Q : VK} {H : Hp} {K : PySem.W.Frag}
end
def allSome {α : Type} : List (Option α) → Option (List α)
  | [] => some []
  | o :: r => o.bind fun x => (allSome r).map fun xs => x :: xs
def datO (f : V → Option PyData) : HO → Option PyData
  | .lst xs => (allSome (xs.map f)).map .list
  | .tup xs => (allSome (xs.map f)).map .tuple
  | _ => none
def datF (H : Hp) (f : V → Option PyData) : V → Option PyData
  | .non => some .none
  | .bl b => some (.bool b)
  | .int i => some (.int i)
  | .str z => if PyData.strOk z = true then some (.str z) else none
  | .ref p => (H p).bind (datO f)
  | _ => none
def datV (H : Hp) : Nat → V → Option PyData
  | 0, _ => none
  | n + 1, x => datF H (datV H n) x
def noD : V → Option PyData := fun _ => none
theorem m_datV (H : Hp) (x : V) : datV H 6 x = datF H (datF H (datF H (datF H (datF H (datF H noD))))) x := rfl
theorem m_datV_str (H : Hp) (n : Nat) (z : Str) : datV H (n + 1) (.str z) = if PyData.strOk z = true then some (.str z) else none := rfl
theorem m_datV_ref (H : Hp) (n : Nat) (p : Addr) : datV H (n + 1) (.ref p) = (H p).bind (datO (datV H n)) := rfl
theorem m_datF_int (H : Hp) (f : V → Option PyData) (i : Int) : datF H f (.int i) = some (.int i) := rfl
theorem m_datF_str (H : Hp) (f : V → Option PyData) (z : Str) : datF H f (.str z) = if PyData.strOk z = true then some (.str z) else none := rfl
theorem m_datF_ref (H : Hp) (f : V → Option PyData) (p : Addr) : datF H f (.ref p) = (H p).bind (datO f) := rfl
theorem m_datO_lst (f : V → Option PyData) (xs : List V) : datO f (.lst xs) = (allSome (xs.map f)).map .list := rfl
theorem m_datO_tup (f : V → Option PyData) (xs : List V) : datO f (.tup xs) = (allSome (xs.map f)).map .tuple := rfl
theorem m_allSome_nil {α : Type} : allSome ([] : List (Option α)) = some [] := rfl
theorem m_allSome_cons {α : Type} (x : α) (r : List (Option α)) : allSome (some x :: r) = (allSome r).map fun xs => x :: xs := rfl
theorem allSome_ints (H : Hp) (f : V → Option PyData) : ∀ ns : List Int, allSome ((ns.map V.int).map (datF H f)) = some (ns.map PyData.int)
  | [] => rfl
  | i :: r => by
    show (allSome ((r.map V.int).map (datF H f))).map _ = _
    rw [allSome_ints H f r]; rfl
theorem datVs_ok {K : PySem.W.Frag} {H : Hp} {n : Nat} (ih : ∀ x d, datV H n x = some d → DatV K H x d ∧ d.canLay0 = true ∧ d.depth ≤ n) : ∀ (xs : List V) (ds : List PyData), allSome (xs.map (datV H n)) = some ds → DatVs K H xs ds ∧ PyData.canLayAll0 ds = true ∧ PyData.depthAll ds ≤ n
  | [], ds, h => by cases h; exact ⟨.nil, rfl, Nat.zero_le _⟩
  | x :: xs, ds, h => by
    have h' : (datV H n x).bind (fun d => (allSome (xs.map (datV H n))).map fun ds => d :: ds) = some ds := h
    cases e : datV H n x with
    | none => rw [e] at h'; cases h'
    | some d =>
      rw [e] at h'
      have h2 : (allSome (xs.map (datV H n))).map (fun ds => d :: ds) = some ds := h'
      cases e2 : allSome (xs.map (datV H n)) with
      | none => rw [e2] at h2; cases h2
      | some es =>
        rw [e2] at h2
        cases h2
        obtain ⟨a, b, c⟩ := ih x d e
        obtain ⟨a', b', c'⟩ := datVs_ok ih xs es e2
        exact ⟨.cons a a', by simp [PyData.canLayAll0, b, b'], by simp only [PyData.depthAll]; omega⟩
theorem datV_ok {K : PySem.W.Frag} {H : Hp} : ∀ (n : Nat) (x : V) (d : PyData), datV H n x = some d → DatV K H x d ∧ d.canLay0 = true ∧ d.depth ≤ n
  | 0, x, d, h => by cases h
  | n + 1, x, d, h => by
    cases x with
    | non => cases h; exact ⟨.non, rfl, Nat.zero_le _⟩
    | bl b => cases h; exact ⟨.bl b, rfl, Nat.zero_le _⟩
    | int i => cases h; exact ⟨.int i, rfl, Nat.zero_le _⟩
    | str z =>
      rw [m_datV_str] at h
      split at h
      · rename_i hz; cases h; exact ⟨.str z, by simpa [PyData.canLay0] using hz, Nat.zero_le _⟩
      · cases h
    | ref p =>
      rw [m_datV_ref] at h
      cases e : H p with
      | none => rw [e] at h; cases h
      | some o =>
        rw [e] at h
        have h' : datO (datV H n) o = some d := h
        cases o with
        | lst xs =>
          rw [m_datO_lst] at h'
          cases e2 : allSome (xs.map (datV H n)) with
          | none => rw [e2] at h'; cases h'
          | some ds =>
            rw [e2] at h'; cases h'
            obtain ⟨a, b, c⟩ := datVs_ok (K := K) (datV_ok n) xs ds e2
            exact ⟨.lst (SqL.of e) a, by simpa [PyData.canLay0] using b, by simp only [PyData.depth]; omega⟩
        | tup xs =>
          rw [m_datO_tup] at h'
          cases e2 : allSome (xs.map (datV H n)) with
          | none => rw [e2] at h'; cases h'
          | some ds =>
            rw [e2] at h'; cases h'
            obtain ⟨a, b, c⟩ := datVs_ok (K := K) (datV_ok n) xs ds e2
            exact ⟨.tup (SqT.of e) a, by simpa [PyData.canLay0] using b, by simp only [PyData.depth]; omega⟩
        | _ => cases h'
    | _ => cases h
theorem datV_shaped {K : PySem.W.Frag} {H : Hp} {n : Nat} {x : V} {d : PyData} (hn : n ≤ 64) (h : datV H n x = some d) : DatV K H x d ∧ SeqAt.shaped d = true := by
  obtain ⟨a, b, c⟩ := datV_ok (K := K) n x d h
  refine ⟨a, ?_⟩
  unfold SeqAt.shaped
  rw [b, decide_eq_true (show d.depth ≤ 64 by omega)]
  rfl
def kEq2 (neg : Bool) (H : Hp) (Q : VK) (d : PyData) : PyData → Prop := fun e => Q (.bl (if neg = true then !PyData.eqv d e else PyData.eqv d e)) H
theorem m_kEq2_t (H : Hp) (Q : VK) (d e : PyData) : kEq2 true H Q d e = Q (.bl (!PyData.eqv d e)) H := rfl
def kEq1 (neg : Bool) (y : V) (H : Hp) (Q : VK) : PyData → Prop := fun d => optK (datV H 6 y) (kEq2 neg H Q d)
theorem m_kEq1 (neg : Bool) (y : V) (H : Hp) (Q : VK) (d : PyData) : kEq1 neg y H Q d = optK (datV H 6 y) (kEq2 neg H Q d) := rfl
def qEq (neg : Bool) : R2 := fun x y H Q => if scal x y = true then Q (.bl (if neg = true then !decide (x = y) else decide (x = y))) H else optK (datV H 6 x) (kEq1 neg y H Q)
theorem m_qEq_refr (neg : Bool) (p : Addr) (x : V) (H : Hp) (Q : VK) : qEq neg x (.ref p) H Q = optK (datV H 6 x) (kEq1 neg (.ref p) H Q) := by
  show (if scal x (.ref p) = true then _ else _) = _
  rw [if_neg (by cases x <;> exact Bool.false_ne_true)]
theorem m_qEq_int_int (i : Int) (j : Int) (H : Hp) (Q : VK) : qEq false (V.int i) (V.int j) H Q = Q (.bl (decide (i = j))) H := by
  have e : decide (((V.int i) : V) = (V.int j)) = decide (i = j) := by simp
  show Q (.bl (if false = true then !decide ((V.int i) = (V.int j)) else decide ((V.int i) = (V.int j)))) H = _
  rw [e]; rfl
theorem m_qNe_int_int (i : Int) (j : Int) (H : Hp) (Q : VK) : qEq true (V.int i) (V.int j) H Q = Q (.bl (!decide (i = j))) H := by
  have e : decide (((V.int i) : V) = (V.int j)) = decide (i = j) := by simp
  show Q (.bl (if true = true then !decide ((V.int i) = (V.int j)) else decide ((V.int i) = (V.int j)))) H = _
  rw [e]; rfl
theorem m_qNe_str_str (i : Str) (j : Str) (H : Hp) (Q : VK) : qEq true (V.str i) (V.str j) H Q = Q (.bl (!decide (i = j))) H := by
  have e : decide (((V.str i) : V) = (V.str j)) = decide (i = j) := by simp
  show Q (.bl (if true = true then !decide ((V.str i) = (V.str j)) else decide ((V.str i) = (V.str j)))) H = _
  rw [e]; rfl
section
variable {X : Cx}
theorem op_qEq (hu : X.A.units + 64 < cLine) : OpR X (compareOp .Eq) (qEq false) := by
  refine (op_eq.or (op_eqD hu)).mono fun x y H Q h => ?_
  unfold qEq at h
  split at h
  · rename_i hs; exact .inl ⟨hs, h⟩
  obtain ⟨d, e1, h⟩ := optK_ex h
  obtain ⟨e, e2, h⟩ := optK_ex h
  obtain ⟨a, b⟩ := datV_shaped (K := X.K) (by decide) e1
  obtain ⟨a', b'⟩ := datV_shaped (K := X.K) (by decide) e2
  exact .inr ⟨d, e, a, a', b, b', h⟩
theorem op_qNe (hu : X.A.units + 64 < cLine) : OpR X (compareOp .NotEq) (qEq true) := by
  refine (op_ne.or (op_neD hu)).mono fun x y H Q h => ?_
  unfold qEq at h
  split at h
  · rename_i hs; exact .inl ⟨hs, h⟩
  obtain ⟨d, e1, h⟩ := optK_ex h
  obtain ⟨e, e2, h⟩ := optK_ex h
  obtain ⟨a, b⟩ := datV_shaped (K := X.K) (by decide) e1
  obtain ⟨a', b'⟩ := datV_shaped (K := X.K) (by decide) e2
  exact .inr ⟨d, e, a, a', b, b', h⟩
end
theorem eqv_int (i j : Int) : PyData.eqv (.int i) (.int j) = decide (i = j) := Bool.beq_eq_decide_eq i j
theorem eqv_str (i j : Str) : PyData.eqv (.str i) (.str j) = (i == j) := rfl
theorem eqv_tuple (xs ys : List PyData) : PyData.eqv (.tuple xs) (.tuple ys) = PyData.eqvAll xs ys := by simp only [PyData.eqv]
theorem eqv_list (xs ys : List PyData) : PyData.eqv (.list xs) (.list ys) = PyData.eqvAll xs ys := by simp only [PyData.eqv]
theorem eqvAll_nil : PyData.eqvAll [] [] = true := by simp only [PyData.eqvAll]
theorem eqvAll_cons (x y : PyData) (xs ys : List PyData) : PyData.eqvAll (x :: xs) (y :: ys) = (PyData.eqv x y && PyData.eqvAll xs ys) := by simp only [PyData.eqvAll]
theorem eqvAll_l (x : PyData) (xs : List PyData) : PyData.eqvAll (x :: xs) [] = false := by simp only [PyData.eqvAll]
theorem eqvAll_r (x : PyData) (xs : List PyData) : PyData.eqvAll [] (x :: xs) = false := by simp only [PyData.eqvAll]
theorem eqvAll_ints : ∀ ns ms : List Int, PyData.eqvAll (ns.map PyData.int) (ms.map PyData.int) = decide (ns = ms)
  | [], [] => by rw [List.map_nil, eqvAll_nil]; rfl
  | [], _ :: _ => by rw [List.map_nil, List.map_cons, eqvAll_r]; rfl
  | _ :: _, [] => by rw [List.map_nil, List.map_cons, eqvAll_l]; rfl
  | i :: r, j :: t => by
    rw [List.map_cons, List.map_cons, eqvAll_cons, eqv_int, eqvAll_ints r t]
    by_cases h : i = j <;> by_cases h2 : r = t <;> simp [h, h2]
end L2
set_option Elab.async false
set_option linter.all false
set_option maxRecDepth 100000
set_option maxHeartbeats 4000000
namespace L2
open PySem PySem.Spec PyProof.Rows
theorem CDiv_eq (i j : Int) : CDiv i j = (0 < j ∧ j < 1073741824) := rfl
theorem CMul_l (i j : Int) (h : -18446744073709551616 < i) (h' : i < 18446744073709551616) : CMul i j = True := eq_true (.inl ⟨by omega, by omega⟩)
theorem CPow_10 (j : Int) : CPow 10 j = (0 ≤ j ∧ j ≤ 1000000) := propext ⟨fun h => ⟨h.1, h.2.1⟩, fun h => ⟨h.1, h.2, by decide⟩⟩
theorem lenLe (n : Nat) (h : n ≤ 1000) : (n ≤ sizeLine) = True := eq_true (Nat.le_of_lt (small1000 h))
theorem lenLt (n : Nat) (h : n ≤ 1000) : (n < sizeLine) = True := eq_true (small1000 h)
theorem Ext.of {H H' : Hp} (h : ∀ a, (H a).isSome = true → H' a = H a) : Ext H H' := ⟨h, fun K a xs q => by
  have s : Same H H' := fun b o e => (h b (by rw [e]; rfl)).trans e
  exact s.seq q⟩
theorem Ext.same {H H' : Hp} (h : Ext H H') : Same H H' := fun b o e => (h.1 b (by rw [e]; rfl)).trans e
theorem Same.ext {H H' : Hp} (h : Same H H') : Ext H H' := Ext.of fun a q => by
  cases e : H a with
  | none => rw [e] at q; cases q
  | some o => exact h a o e
theorem Ext.refl (H : Hp) : Ext H H := (Same.refl H).ext
theorem Ext.trans {H H1 H2 : Hp} (a : Ext H H1) (b : Ext H1 H2) : Ext H H2 := (a.same.trans b.same).ext
theorem Ext.new {H : Hp} {p : Addr} {o : HO} (h : H p = none) : Ext H (upd H p o) := (same_upd h).ext
theorem Ext.put {H H1 : Hp} {p : Addr} {o : HO} (a : Ext H H1) (h : H p = none) : Ext H (upd H1 p o) := Same.ext fun b u e => by
  rw [upd_ne (ne_of_none e h)]; exact a.same b u e
theorem Ext.free {H H1 : Hp} {p : Addr} (a : Ext H H1) (h : H1 p = none) : H p = none := a.same.free h
theorem Ext.at {H H1 : Hp} {p : Addr} {o : HO} (a : Ext H H1) (h : H p = some o) : H1 p = some o := a.same _ _ h
theorem optK_at {xs : List V} {i : Int} {k : V → Prop} (h0 : 0 ≤ i) (h1 : i < xs.length) (h : ∀ v ∈ xs, k v) : optK (atI xs i) k := by
  obtain ⟨v, e, m⟩ := atI_lt xs i h0 h1
  rw [e]; exact h v m
theorem cx_K (CX : CXT) (P : Program) (w : World) (K : PySem.W.Frag) (mg : Str → Option Value) (base : Heap) (N : List Str) (qual : Str) (scope : Scope) (f : Addr) (cd : Value) (A : Around) (outer : List Env) (s : Shared) (H : Hp) (E : XK) : (cxOf CX P w K mg base N qual scope f cd A outer s H E).K = K := rfl
theorem call_qIsE' {X : Cx} {K : PySem.W.Frag} (h : X.K = K) : CallR X (.builtin "isinstance") (qIsE K) := h ▸ call_qIsE
theorem cls_some {K : PySem.W.Frag} {C : Addr} (h : PySem.W.hasDictIn K C = true) : (PySem.W.clsIn K C).isSome = true := by
  obtain ⟨cd, hc, _⟩ := PySem.W.any_some h
  rw [hc]; rfl
theorem kit_yes {K : PySem.W.Frag} {A C : Addr} (h1 : PySem.W.hasDictIn K C = true) (h2 : PySem.W.typeIn K (.ref C) = some (.type "type")) (h3 : PySem.W.subIn K (.ref A) (.ref C) = some true) : PySem.W.kitOne K (.ref A) (.ref C) = some true := by
  unfold PySem.W.kitOne
  split
  · rfl
  · show (if _ then _ else _) = _
    rw [cls_some h1, h2, if_pos (by decide), h3]
theorem kit_no {K : PySem.W.Frag} {A C : Addr} (h0 : (A == C) = false) (h1 : PySem.W.hasDictIn K C = true) (h2 : PySem.W.typeIn K (.ref C) = some (.type "type")) (h3 : PySem.W.subIn K (.ref A) (.ref C) = some false) : PySem.W.kitOne K (.ref A) (.ref C) = some false := by
  unfold PySem.W.kitOne
  rw [if_neg (by intro z; have e : A = C := Value.ref.inj (beq_iff_eq.mp z); rw [e] at h0; simp at h0)]
  show (if _ then _ else _) = _
  rw [cls_some h1, h2, if_pos (by decide), h3]
theorem kit_ty {K : PySem.W.Frag} {A : Addr} {n : String} {b : Bool} (h1 : PySem.W.kitMeta n = true) (h3 : PySem.W.subIn K (.ref A) (.type n) = some b) : PySem.W.kitOne K (.ref A) (.type n) = some b := by
  unfold PySem.W.kitOne
  rw [if_neg (by intro z; have e := beq_iff_eq.mp z; cases e)]
  show (if _ then _ else _) = _
  rw [if_pos h1, h3]
def isW (H : Hp) : V → Option Bool
  | .int _ => some true
  | .bl _ => some false
  | .non => some false
  | .str _ => some false
  | .ref p => ((H p).bind tyO).map fun _ => false
  | _ => none
theorem isW_int' (H : Hp) (i : Int) : isW H (.int i) = some true := rfl
theorem isW_bl' (H : Hp) (i : Bool) : isW H (.bl i) = some false := rfl
theorem isW_non' (H : Hp) : isW H .non = some false := rfl
theorem isW_str' (H : Hp) (i : Str) : isW H (.str i) = some false := rfl
theorem isW_ref' (H : Hp) (p : Addr) : isW H (.ref p) = ((H p).bind tyO).map fun _ => false := rfl
theorem isW_obj {H : Hp} {p : Addr} {b : Bool} (h : isW H (.ref p) = some b) : b = false ∧ ∃ o, H p = some o ∧ (tyO o = some "list" ∨ tyO o = some "tuple" ∨ tyO o = some "dict") := by
  rw [isW_ref'] at h
  cases e : H p with
  | none => rw [e] at h; cases h
  | some o =>
    rw [e] at h
    have h' : (tyO o).map (fun _ => false) = some b := h
    cases e2 : tyO o with
    | none => rw [e2] at h'; cases h'
    | some t =>
      rw [e2] at h'; cases h'
      refine ⟨rfl, o, rfl, ?_⟩
      cases o with
      | lst xs => exact .inl rfl
      | tup xs => exact .inr (.inl rfl)
      | dK xs => exact .inr (.inr rfl)
      | dT xs => exact .inr (.inr rfl)
      | frz ob u => cases u with
        | lst xs => exact .inl rfl
        | _ => cases e2
      | _ => cases e2
end L2
set_option Elab.async false
set_option linter.all false
set_option maxRecDepth 100000
set_option maxHeartbeats 4000000
namespace L2
open PySem PySem.Spec PyProof.Rows
def ME (t : TE) : Prop := ∀ σ H (Q Q' : VK), (∀ v H, Q v H → Q' v H) → t σ H Q → t σ H Q'
def MT (t : TT) : Prop := ∀ σ H (Q Q' : Bool → Hp → Prop), (∀ b H, Q b H → Q' b H) → t σ H Q → t σ H Q'
def MA (t : TA) : Prop := ∀ σ H (Q Q' : List V → Hp → Prop), (∀ b H, Q b H → Q' b H) → t σ H Q → t σ H Q'
def MR (r : R2) : Prop := ∀ x y H (Q Q' : VK), (∀ v H, Q v H → Q' v H) → r x y H Q → r x y H Q'
theorem optK_mono {α : Type} {o : Option α} {k k' : α → Prop} (m : ∀ x, k x → k' x) (h : optK o k) : optK o k' := by
  obtain ⟨x, e, q⟩ := optK_ex h
  rw [e]; exact m x q
theorem mo_var {i : Nat} : ME (tVar i) := fun σ H Q Q' m ⟨v, e, q⟩ => ⟨v, e, m _ _ q⟩
theorem mo_op {r : R2} {a b : TE} (hr : MR r) (ha : ME a) (hb : ME b) : ME (tOp r a b) := fun σ H Q Q' m q => ha σ H _ _ (fun _ _ q => hb σ _ _ _ (fun _ _ q => hr _ _ _ _ _ m q) q) q
theorem mo_qEq {n : Bool} : MR (qEq n) := fun x y H Q Q' m q => by
  unfold qEq at q ⊢
  by_cases hs : scal x y = true
  · rw [if_pos hs] at q ⊢; exact m _ _ q
  · rw [if_neg hs] at q ⊢; exact optK_mono (fun _ q => optK_mono (fun _ q => m _ _ q) q) q
theorem mo_nil : MA tNil := fun σ H Q Q' m q => m _ _ q
theorem mo_test {t : TE} (h : ME t) : MT (tTest t) := fun σ H Q Q' m q => h σ H _ _ (fun _ _ ⟨k, e, q⟩ => ⟨k, e, m _ _ q⟩) q
theorem while_w {c : TT} {tb : TS} {nx : St → Hp → Prop} {rt : VK} {bk ct : St → Hp → Prop} {σ : St} {H : Hp} (mono : MT c) (Pv : Nat → St → Hp → Prop) (m0 : Nat) (h0 : Pv m0 σ H)
    (hs : ∀ m σ H, Pv m σ H → c σ H (kWh tb nx rt Pv m σ)) : tWhile c tb ⟨nx, rt, bk, ct⟩ σ H := while_m Pv m0 h0 (fun σ H Q Q' => mono σ H Q Q') hs
theorem ints_inj : ∀ {ns ms : List Int}, ns.map V.int = ms.map V.int → ns = ms
  | [], [], _ => rfl
  | [], _ :: _, h => by cases h
  | _ :: _, [], h => by cases h
  | i :: r, j :: t, h => by
    simp only [List.map_cons, List.cons.injEq, V.int.injEq] at h
    rw [h.1, ints_inj h.2]
def kInts (F : List Int → Prop) : List V → Prop := fun xs => ∃ ns, xs = ns.map V.int ∧ F ns
theorem m_kInts (F : List Int → Prop) (ns : List Int) : kInts F (ns.map V.int) = F ns := propext ⟨fun ⟨ms, e, h⟩ => by rw [ints_inj e]; exact h, fun h => ⟨ns, rfl, h⟩⟩
theorem optK_ints {xs : List V} {i : Int} {k : V → Prop} (P : Int → Prop) (h0 : 0 ≤ i) (h1 : i < xs.length) (hx : ∀ v ∈ xs, ∃ j, v = .int j ∧ P j) (h : ∀ j, P j → k (.int j)) : optK (atI xs i) k := optK_at h0 h1 fun v hv => by
  obtain ⟨j, rfl, hj⟩ := hx v hv
  exact h j hj
theorem CMulB_of (i j : Int) (h : i.natAbs < 2 ^ 256) (h' : j.natAbs < 2 ^ 256) : CMulB i j = True := eq_true ⟨h, h'⟩
theorem cut_none (xs : List V) (z : Int) (h : 0 ≤ z) : cutV xs none (some z) = xs.take z.toNat := by
  unfold cutV
  rw [HT.sIx_none, List.drop_zero, Nat.sub_zero]
  obtain ⟨n, rfl⟩ := Int.eq_ofNat_of_zero_le h
  rw [HT.sIx_nat]
  show _ = xs.take n
  rcases Nat.le_total n xs.length with q | q
  · rw [Nat.min_eq_left q]
  · rw [Nat.min_eq_right q, List.take_of_length_le (Nat.le_refl _), List.take_of_length_le q]
def kSlN (lo hi : Option Int) (H : Hp) (Q : VK) : List V → Prop := fun xs => ∀ p, H p = none → Q (.ref p) (upd H p (.lst (cutV xs lo hi)))
def qSlL : V → Option Int → Option Int → Hp → VK → Prop := fun x lo hi H Q => match x with
  | .ref a => optK (lstAt H a) (kSlN lo hi H Q)
  | _ => False
theorem sl_q {X : Cx} : SlR X qSlL := sl_list.mono fun x lo hi H Q h => by
  unfold qSlL at h
  split at h
  · rename_i a
    obtain ⟨xs, e, q⟩ := optK_ex h
    exact ⟨a, xs, rfl, SqL.of (lst_of e), q⟩
  · exact h.elim
def kSl3 (r : V → Option Int → Option Int → Hp → VK → Prop) (x : V) (l : Option Int) (Q : VK) : Option Int → Hp → Prop := fun u H => r x l u H Q
theorem m_kSl3 (r : V → Option Int → Option Int → Hp → VK → Prop) (x : V) (l : Option Int) (Q : VK) (u : Option Int) (H : Hp) : kSl3 r x l Q u H = r x l u H Q := rfl
def kSl2 (r : V → Option Int → Option Int → Hp → VK → Prop) (th : TO) (σ : St) (x : V) (Q : VK) : Option Int → Hp → Prop := fun l H => th σ H (kSl3 r x l Q)
theorem m_kSl2 (r : V → Option Int → Option Int → Hp → VK → Prop) (th : TO) (σ : St) (x : V) (Q : VK) (l : Option Int) (H : Hp) : kSl2 r th σ x Q l H = th σ H (kSl3 r x l Q) := rfl
def kSl1 (r : V → Option Int → Option Int → Hp → VK → Prop) (tl th : TO) (σ : St) (Q : VK) : VK := fun x H => tl σ H (kSl2 r th σ x Q)
theorem m_kSl1 (r : V → Option Int → Option Int → Hp → VK → Prop) (tl th : TO) (σ : St) (Q : VK) (x : V) (H : Hp) : kSl1 r tl th σ Q x H = tl σ H (kSl2 r th σ x Q) := rfl
theorem m_tSl (r : V → Option Int → Option Int → Hp → VK → Prop) (te : TE) (tl th : TO) (σ : St) (H : Hp) (Q : VK) : tSl r te tl th σ H Q = te σ H (kSl1 r tl th σ Q) := rfl
theorem m_tNoPart (σ : St) (H : Hp) (Q : Option Int → Hp → Prop) : tNoPart σ H Q = Q none H := rfl
def kPart (Q : Option Int → Hp → Prop) : VK := fun x H => ∃ i, x = .int i ∧ Q (some i) H
theorem m_kPart (Q : Option Int → Hp → Prop) (i : Int) (H : Hp) : kPart Q (.int i) H = Q (some i) H := propext ⟨fun ⟨_, e, q⟩ => by cases e; exact q, fun q => ⟨i, rfl, q⟩⟩
theorem m_tPart (t : TE) (σ : St) (H : Hp) (Q : Option Int → Hp → Prop) : tPart t σ H Q = t σ H (kPart Q) := rfl
end L2
set_option Elab.async false
set_option linter.all false
set_option maxRecDepth 100000
set_option maxHeartbeats 4000000
namespace L2
open PySem PySem.Spec PyProof.Rows
def newK (o : HO) (H : Hp) (Q : VK) : Prop := ∀ (p : Addr) (H' : Hp), H p = none → Ext H H' → H' p = some o → Q (.ref p) H'
theorem newK.to {o : HO} {H : Hp} {Q : VK} (h : newK o H Q) : ∀ p, H p = none → Q (.ref p) (upd H p o) := fun p hp => h p _ hp (Ext.new hp) upd_same
def kQT (Q : VK) : List V → Hp → Prop := fun xs H => xs.length ≤ sizeLine ∧ newK (.tup xs) H Q
theorem m_kQT (Q : VK) (xs : List V) (H : Hp) : kQT Q xs H = (xs.length ≤ sizeLine ∧ newK (.tup xs) H Q) := rfl
def kQL (Q : VK) : List V → Hp → Prop := fun xs H => xs.length ≤ sizeLine ∧ newK (.lst xs) H Q
theorem m_kQL (Q : VK) (xs : List V) (H : Hp) : kQL Q xs H = (xs.length ≤ sizeLine ∧ newK (.lst xs) H Q) := rfl
def qTup (t : TA) : TE := fun σ H Q => t σ H (kQT Q)
theorem m_qTup (t : TA) (σ : St) (H : Hp) (Q : VK) : qTup t σ H Q = t σ H (kQT Q) := rfl
def qLst (t : TA) : TE := fun σ H Q => t σ H (kQL Q)
theorem m_qLst (t : TA) (σ : St) (H : Hp) (Q : VK) : qLst t σ H Q = t σ H (kQL Q) := rfl
section
variable {X : Cx} {es : List Expr} {t : TA} {pos : Pos}
theorem pe_qTup {x1} (h : PA X es t) : PE X (.Tuple es x1 pos) (qTup t) := by
  intro pins s σ H Q I hq
  refine wpAny_Tuple_spliced (thn (h pos pins s σ H _ I hq) fun us s1 ⟨xs, H1, I1, r, z, q⟩ => ⟨by rw [← r.length]; exact z, ?_⟩)
  have hf : H1 s1.heap.objs.size = none := I1.hok.fresh (Nat.le_refl _)
  refine ⟨.ref s1.heap.objs.size, upd H1 s1.heap.objs.size (.tup xs), I1.laid (t' := s1.toks) (fun b u e => Heap.get?_push_of_some _ e) (Nat.le_refl _) ?_, rfl, q.to _ hf⟩
  exact ⟨z, us, r, ⟨_, Heap.get?_push_size _ rfl, rfl, _, rfl⟩⟩
theorem pe_qLst (h : PA X es t) : PE X (.List es pos) (qLst t) := by
  intro pins s σ H Q I hq
  refine wpAny_List_spliced (thn (h pos pins s σ H _ I hq) fun us s1 ⟨xs, H1, I1, r, z, q⟩ => ⟨by rw [← r.length]; exact z, ?_⟩)
  have hf : H1 s1.heap.objs.size = none := I1.hok.fresh (Nat.le_refl _)
  refine ⟨.ref s1.heap.objs.size, upd H1 s1.heap.objs.size (.lst xs), I1.laid (t' := s1.toks) (fun b u e => Heap.get?_push_of_some _ e) (Nat.le_refl _) ?_, rfl, q.to _ hf⟩
  exact ⟨z, us, 0, r, Heap.get?_push_size _ rfl⟩
end
def kN (f : List V → HO) (H : Hp) (Q : VK) : List V → Prop := fun ys => newK (f ys) H Q
theorem m_kN (f : List V → HO) (H : Hp) (Q : VK) (ys : List V) : kN f H Q ys = newK (f ys) H Q := rfl
def nList (xs : List V) (H : Hp) (Q : VK) : Prop := match xs with
  | [.ref p] => optK (itemsAt H p) (kN .lst H Q)
  | _ => False
theorem m_nList (p : Addr) (H : Hp) (Q : VK) : nList [.ref p] H Q = optK (itemsAt H p) (kN .lst H Q) := rfl
theorem call_nList {X : Cx} : CallR X (.type "list") nList := call_qList.mono fun xs H Q h => by
  unfold nList at h
  split at h
  · exact optK_mono (fun _ q => q.to) h
  · exact h.elim
def kNT (p : Addr) (H : Hp) (Q : VK) : HO → Prop := fun o => match o with
  | .lst ys => newK (.tup ys) H Q
  | .tup _ => Q (.ref p) H
  | _ => False
theorem m_kNT_l (p : Addr) (H : Hp) (Q : VK) (ys : List V) : kNT p H Q (.lst ys) = newK (.tup ys) H Q := rfl
def nTuple (xs : List V) (H : Hp) (Q : VK) : Prop := match xs with
  | [.ref p] => optK (H p) (kNT p H Q)
  | _ => False
theorem m_nTuple (p : Addr) (H : Hp) (Q : VK) : nTuple [.ref p] H Q = optK (H p) (kNT p H Q) := rfl
theorem call_nTuple {X : Cx} : CallR X (.type "tuple") nTuple := call_qTuple.mono fun xs H Q h => by
  unfold nTuple at h
  split at h
  · refine optK_mono (fun o q => ?_) h
    unfold kNT at q
    unfold kTupO
    split at q
    · exact q.to
    · exact q
    · exact q.elim
  · exact h.elim
def kNC2 (xs : List V) (H : Hp) (Q : VK) : List V → Prop := fun ys => xs.length + ys.length ≤ sizeLine ∧ newK (.lst (xs ++ ys)) H Q
theorem m_kNC2 (xs : List V) (H : Hp) (Q : VK) (ys : List V) : kNC2 xs H Q ys = (xs.length + ys.length ≤ sizeLine ∧ newK (.lst (xs ++ ys)) H Q) := rfl
def kNC1 (b : Addr) (H : Hp) (Q : VK) : List V → Prop := fun xs => optK (lstAt H b) (kNC2 xs H Q)
theorem m_kNC1 (b : Addr) (H : Hp) (Q : VK) (xs : List V) : kNC1 b H Q xs = optK (lstAt H b) (kNC2 xs H Q) := rfl
def nCat : R2 := fun x y H Q => match x, y with
  | .ref l, .ref b => optK (lstAt H l) (kNC1 b H Q)
  | _, _ => False
theorem m_nCat (l b : Addr) (H : Hp) (Q : VK) : nCat (.ref l) (.ref b) H Q = optK (lstAt H l) (kNC1 b H Q) := rfl
theorem op_nCat {X : Cx} : OpR X (binaryOp .Add) nCat := op_cat.mono fun x y H Q h => by
  unfold nCat at h
  split at h
  · rw [m_rCat]
    exact optK_mono (fun _ q => optK_mono (fun _ q => ⟨q.1, q.2.to⟩) q) h
  · exact h.elim
def kNS (lo hi : Option Int) (H : Hp) (Q : VK) : List V → Prop := fun xs => newK (.lst (cutV xs lo hi)) H Q
theorem m_kNS (lo hi : Option Int) (H : Hp) (Q : VK) (xs : List V) : kNS lo hi H Q xs = newK (.lst (cutV xs lo hi)) H Q := rfl
def nSl : V → Option Int → Option Int → Hp → VK → Prop := fun x lo hi H Q => match x with
  | .ref a => optK (lstAt H a) (kNS lo hi H Q)
  | _ => False
theorem m_nSl (a : Addr) (lo hi : Option Int) (H : Hp) (Q : VK) : nSl (.ref a) lo hi H Q = optK (lstAt H a) (kNS lo hi H Q) := rfl
theorem sl_n {X : Cx} : SlR X nSl := sl_q.mono fun x lo hi H Q h => by
  unfold nSl at h
  split at h
  · exact optK_mono (fun _ q => q.to) h
  · exact h.elim
theorem PE.mono {X : Cx} {e : Expr} {t t' : TE} (h : PE X e t) (m : ∀ σ H Q, t' σ H Q → t σ H Q) : PE X e t' := fun pins s σ H Q I q => h pins s σ H Q I (m _ _ _ q)
def nDNew : TE := fun _ H Q => newK (.dK []) H Q
theorem m_nDNew (σ : St) (H : Hp) (Q : VK) : nDNew σ H Q = newK (.dK []) H Q := rfl
theorem pe_nDNew {X : Cx} {pos : Pos} : PE X (.Dict [] [] pos) nDNew := pe_dnewK.mono fun _ _ _ h => h.to
end L2
set_option Elab.async false
set_option linter.all false
set_option maxRecDepth 100000
set_option maxHeartbeats 4000000
namespace L2
open PySem PySem.Spec PyProof.Rows
section
variable {prog : Program} {w : World} {A : Around} {E : Value → Shared → Prop} {s : Shared}
end
section
variable {X : Cx} {pos : Pos}
end
end L2
set_option Elab.async false
set_option linter.all false
set_option maxRecDepth 100000
set_option maxHeartbeats 4000000
namespace L2
open PySem PySem.Spec PyProof.Rows
def Itv (K : PySem.W.Frag) (a : Addr) (xs : List V) : It :=
  ⟨fun i H => SqL K H a xs ∧ i < xs.length, fun i H x H' => H' = H ∧ xs[xs.length - 1 - i]? = some x, fun i _ => i = xs.length⟩
theorem turn_rev {P : Program} {w : World} {K : PySem.W.Frag} {tg : Expr} (a it : Addr) (xs : List V) : Turn P w K tg (Itv K a xs) [it] it (fun i h => i ≤ xs.length ∧ h.IsRevIter it a ((xs.length : Int) - 1 - (i : Int))) where
  mem := by simp
  obj := fun i h st b hb => by
    have e : b = it := by simpa using hb
    subst e
    obtain ⟨_, o, e, c, d⟩ := st
    exact ⟨o, e, fun v z => by rw [d] at z; cases z⟩
  keep := fun i h h' st k => ⟨st.1, st.2.at fun o e => k it (by simp) o e⟩
  item := by
    intro X hP hw hK hc i pins s σ H E I hf st hg
    subst hP hw hK
    obtain ⟨hq, hlt⟩ := hg
    obtain ⟨its, rv, p, hz⟩ := I.list hq
    have hx : xs[xs.length - 1 - i]? = some (xs[xs.length - 1 - i]'(by omega)) := List.getElem?_eq_getElem (by omega)
    obtain ⟨u, hu, ru⟩ := rv.get hx
    obtain ⟨f0, f1, f2, f3, f4, f5⟩ := hf it (by simp)
    have st1 := st.2
    rw [show ((xs.length : Int) - 1 - (i : Int)) = ((xs.length - 1 - i : Nat) : Int) by omega] at st1
    refine wpAny_pyNext_rev_item st1 p.isList (x := u) (by simpa using hu) fun h' st' sb => ?_
    have I1 : Inv X pins σ H { s with heap := h' } := I.turned (t' := s.toks) (fun b o hb e => (sb.2 b hb).trans e) f0 f1 f3 f4 f5
    obtain ⟨o, e, c, d⟩ := id st'
    rw [show (((xs.length - 1 - i : Nat) : Int) - 1) = (xs.length : Int) - 1 - ((i + 1 : Nat) : Int) by omega] at st'
    exact ⟨u, rfl, go_of (s := { s with heap := h' }) e c d (by decide) ⟨_, H, I1, ru, ⟨rfl, hx⟩, ⟨hlt, st'⟩, fun b hb => (hf b hb).1⟩⟩
  done := by
    intro X hP hw hK hc i pins s σ H E I hf st hg
    subst hP hw hK
    have e : i = xs.length := hg
    subst e
    obtain ⟨f0, f1, f2, f3, f4, f5⟩ := hf it (by simp)
    have st1 := st.2
    rw [show ((xs.length : Int) - 1 - (xs.length : Int)) = -1 by omega] at st1
    exact wpAny_pyNext_rev_end (I.ok.hd hc) st1 fun h' eb => ⟨rfl, I.turned (t' := s.toks) (fun b o hb e => eb b o hb e) f0 f1 f3 f4 f5⟩
  self := fun _ _ _ _ _ st h => wpAny_pyIter_revIter st.2 h
def kRvJ (K : PySem.W.Frag) (a : Addr) (H : Hp) (R : It → Hp → Prop) : List V → Prop := fun xs => R (Itv K a xs) H
theorem m_kRvJ (K : PySem.W.Frag) (a : Addr) (H : Hp) (R : It → Hp → Prop) (xs : List V) : kRvJ K a H R xs = R (Itv K a xs) H := rfl
def kRvI (K : PySem.W.Frag) (R : It → Hp → Prop) : List V → Hp → Prop := fun vs H => match vs with
  | [.ref a] => optK (lstAt H a) (kRvJ K a H R)
  | _ => False
theorem m_kRvI (K : PySem.W.Frag) (R : It → Hp → Prop) (a : Addr) (H : Hp) : kRvI K R [.ref a] H = optK (lstAt H a) (kRvJ K a H R) := rfl
def iRev (K : PySem.W.Frag) (ta : TA) : TI := fun σ H R => ta σ H (kRvI K R)
theorem m_iRev (K : PySem.W.Frag) (ta : TA) (σ : St) (H : Hp) (R : It → Hp → Prop) : iRev K ta σ H R = ta σ H (kRvI K R) := rfl
section
variable {X : Cx} {tg : Expr}
theorem pi_rev {a : Expr} {ta : TA} {p pos : Pos} (hg : Gl X "reversed") (hm : X.mg "reversed" = none) (ha : PA X [a] ta) (hs : starEach [a] X.env = [(false, eval a X.env)] := by rfl) : PI X tg (.Call (.Name "reversed" p) [a] [] pos) (iRev X.K ta) := by
  intro pins s σ H R I h
  refine Call_ (ld_blt I hg hm (show bootBuiltins "reversed" = some (.type "reversed") by decide +kernel) (PyProof.Rows.callWith_type1 (thn (ha pos pins s σ H _ I h) fun us s1 ⟨vs, H1, I1, r1, q1⟩ => ?_) hs rfl))
  unfold kRvI at q1
  split at q1
  · rename_i b
    obtain ⟨xs, e, q⟩ := optK_ex q1
    cases r1 with
    | cons r rr =>
      cases rr
      cases r
      obtain ⟨its, rv, pl, hz⟩ := I1.list (SqL.of (lst_of e))
      refine call_reversed_list pl.isList ?_
      have hsz : (its.toArray.size : Int) = (xs.length : Int) := by rw [← rv.length.symm]; simp
      have I2 : Inv X pins σ H1 { s1 with heap := s1.heap.push (revObj b ((its.toArray.size : Int) - 1)) } := I1.kept (t' := s1.toks) fun b o e => Heap.get?_push_of_some _ e
      have hit : (s1.heap.push (revObj b ((its.toArray.size : Int) - 1))).IsRevIter s1.heap.objs.size b ((xs.length : Int) - 1 - ((0 : Nat) : Int)) := ⟨_, Heap.get?_push_size _ rfl, rfl, by rw [hsz]; simp [revObj]⟩
      refine wpAny_pyIter_revIter hit ⟨s1.heap.objs.size, [s1.heap.objs.size], _, _, H1, rfl, I2, turn_rev b _ xs, ⟨Nat.zero_le _, hit⟩, fun c hb => ?_, q⟩
      have e : c = s1.heap.objs.size := by simpa using hb
      subst e
      exact I1.fpOk (Nat.le_refl _) (I1.hok.fresh (Nat.le_refl _))
  · exact q1.elim
end
theorem for_rev {K : PySem.W.Frag} {a : Addr} {xs : List V} {g : TG} {tb : TS} {nx : St → Hp → Prop} {rt : VK} {bk ct : St → Hp → Prop} {σ : St} {H : Hp} (Pv : Nat → St → Hp → Prop) (h0 : Pv 0 σ H) (hl : ∀ i σ H, i ≤ xs.length → Pv i σ H → SqL K H a xs)
    (hs : ∀ i x σ H, i < xs.length → xs[xs.length - 1 - i]? = some x → Pv i σ H → g x σ H (kBody tb ⟨Pv (i + 1), rt, nx, Pv (i + 1)⟩)) (hd : ∀ σ H, Pv xs.length σ H → nx σ H) : kFor g tb ⟨nx, rt, bk, ct⟩ σ (Itv K a xs) H := by
  refine ⟨fun i m σ H => m = xs.length - i ∧ i ≤ xs.length ∧ Pv i σ H, ⟨xs.length, by simp, Nat.zero_le _, h0⟩, ?_⟩
  rintro i m σ H ⟨rfl, hi, p⟩
  have q := hl i σ H hi p
  by_cases hlt : i < xs.length
  · refine .inr ⟨⟨q, hlt⟩, Pv (i + 1), fun σ' H' p' => ⟨xs.length - (i + 1), by omega, rfl, hlt, p'⟩, fun x H' y => ?_⟩
    obtain ⟨e, y⟩ := y
    subst e
    exact hs i x σ _ hlt y p
  · have e : i = xs.length := by omega
    subst e
    exact .inl ⟨rfl, hd σ H p⟩
end L2
set_option Elab.async false
set_option linter.all false
set_option maxRecDepth 100000
set_option maxHeartbeats 4000000
namespace L2
open PySem PySem.Spec PyProof.Rows
def kBls (F : List Bool → Prop) : List V → Prop := fun xs => ∃ bs, xs = bs.map V.bl ∧ F bs
theorem bls_inj : ∀ {ns ms : List Bool}, ns.map V.bl = ms.map V.bl → ns = ms
  | [], [], _ => rfl
  | [], _ :: _, h => by cases h
  | _ :: _, [], h => by cases h
  | i :: r, j :: t, h => by
    simp only [List.map_cons, List.cons.injEq, V.bl.injEq] at h
    rw [h.1, bls_inj h.2]
theorem m_kBls (F : List Bool → Prop) (bs : List Bool) : kBls F (bs.map V.bl) = F bs := propext ⟨fun ⟨ms, e, h⟩ => by rw [bls_inj e]; exact h, fun h => ⟨bs, rfl, h⟩⟩
def kAllB (H : Hp) (Q : VK) : List Bool → Prop := fun bs => Q (.bl (bs.all id)) H
theorem m_kAllB (H : Hp) (Q : VK) (bs : List Bool) : kAllB H Q bs = Q (.bl (bs.all id)) H := rfl
def qAll : List V → Hp → VK → Prop := fun vs H Q => match vs with
  | [.ref p] => optK (lstAt H p) (kBls (kAllB H Q))
  | _ => False
theorem m_qAll (p : Addr) (H : Hp) (Q : VK) : qAll [.ref p] H Q = optK (lstAt H p) (kBls (kAllB H Q)) := rfl
section
variable {X : Cx}
theorem all_range (bs : List Bool) : (List.range bs.length).all (fun i => bs.getD i false) = bs.all id := by
  rw [Bool.eq_iff_iff, List.all_eq_true, List.all_eq_true]
  refine ⟨fun h x hx => ?_, fun h i hi => ?_⟩
  · obtain ⟨i, hi, e⟩ := List.getElem_of_mem hx
    have := h i (List.mem_range.mpr hi)
    simpa [List.getD, List.getElem?_eq_getElem hi, e] using this
  · have hi' := List.mem_range.mp hi
    have := h (bs[i]) (List.getElem_mem hi')
    simpa [List.getD, List.getElem?_eq_getElem hi'] using this
theorem call_qAll (hc : X.calm = true) : CallR X (.builtin "all") qAll := by
  intro pins s σ H vs us Q I r h
  unfold qAll at h
  split at h
  · rename_i p
    obtain ⟨xs, e, bs, rfl, q⟩ := optK_ex h
    cases r with
    | cons r rr =>
      cases rr
      cases r
      obtain ⟨its, rv, pl, hz⟩ := I.list (SqL.of (lst_of e))
      have hlt : p < s.heap.objs.size := by obtain ⟨_, e, _⟩ := pl.isList; exact Heap.lt_size e
      have hlen : its.length = bs.length := by have := rv.length; simpa using this.symm
      refine call_all_walk (wpAny_pyIter_list pl.isList ⟨s.heap.objs.size, _, _, _, _, _, fun i => bs.getD i false, rfl, Walks.list (show X.A.in1.handled = none from I.ok.hd hc) _ p (Nat.ne_of_lt hlt) its.toArray, ⟨⟨_, Heap.get?_push_size _ rfl, rfl, rfl⟩, pl.isList.push _⟩, fun i v s' Q' E' hP hQ => ?_, fun h' tk hk => ?_⟩)
      · have hv : its[i]? = some v := by simpa using hP
        have hi : i < bs.length := by rw [← hlen]; exact (List.getElem?_eq_some_iff.mp hv).1
        obtain ⟨u, hu, ru⟩ := rv.get (i := i) (x := .bl (bs.getD i false)) (by rw [List.getElem?_map, List.getElem?_eq_getElem hi]; simp [List.getD, List.getElem?_eq_getElem hi])
        rw [hv] at hu
        cases hu
        have e2 : v = .bool (bs.getD i false) := ru
        subst e2
        exact wpAny_truthy_bool hQ
      · have kp : ∀ b o, s.heap.get? b = some o → h'.get? b = some o := fun b o e => hk b o (fun hmem => by
          have : b = s.heap.objs.size := by simpa using hmem
          subst this
          exact absurd (Heap.lt_size e) (Nat.lt_irrefl _)) (Heap.get?_push_of_some _ e)
        refine ⟨.bl (bs.all id), H, I.kept (t' := tk) kp, ?_, q⟩
        rw [show its.toArray.size = bs.length by simp [hlen], all_range]
        exact rfl
  · exact h.elim
end
end L2
set_option Elab.async false
set_option linter.all false
set_option maxRecDepth 100000
set_option maxHeartbeats 4000000
namespace L2
open PySem PySem.Spec PyProof.Rows
structure Src (prog : Program) (w : World) (it : Addr) (fr : List Addr) (st : Nat → Heap → Prop) (val : Nat → Option Value) : Prop where
  mem : it ∈ fr
  there : ∀ k h, st k h → ∀ b ∈ fr, ∃ o, h.get? b = some o
  keep : ∀ k h h', st k h → (∀ b ∈ fr, ∀ o, h.get? b = some o → h'.get? b = some o) → st k h'
  item : ∀ (A : Around) k s v (Q : Value → Shared → Prop) (E : Value → Shared → Prop), st k s.heap → val k = some v → (∀ h', st (k + 1) h' → Heap.SameBut it s.heap h' → Q v { s with heap := h' }) → wpAny (model prog w) A (Builtin.SmallTypes.nextOf (.ref it)) Q E s
  fin : ∀ (A : Around) k s (Q : Value → Shared → Prop) (E : Value → Shared → Prop), A.handled = none → st k s.heap → val k = none → (∀ h' e, Heap.ExtBut it s.heap h' → (∃ o, h'.get? e = some o ∧ o.cls = .type "StopIteration") → E (.ref e) { s with heap := h' }) → wpAny (model prog w) A (Builtin.SmallTypes.nextOf (.ref it)) Q E s
theorem src_list {prog : Program} {w : World} (it l : Addr) (hne : l ≠ it) (xs : Array Value) : Src prog w it [it, l] (fun k h => h.IsListIter it l k ∧ h.IsList l xs) (fun k => xs[k]?) where
  mem := List.mem_cons_self
  there := fun k h st b hb => by
    rcases List.mem_cons.mp hb with e | hb
    · obtain ⟨o, q, _⟩ := st.1; exact ⟨o, by rw [e]; exact q⟩
    · obtain ⟨o, q, _⟩ := st.2; exact ⟨o, by rw [List.mem_singleton.mp hb]; exact q⟩
  keep := fun k h h' st q => ⟨st.1.at fun o e => q it (by simp) o e, st.2.at fun o e => q l (by simp) o e⟩
  item := fun A k s v Q E st hv hQ => wpAny_nextOf_list_item st.1 st.2 hv fun h' a b => hQ h' ⟨a, st.2.extBut b.extBut hne⟩ b
  fin := fun A k s Q E hh st hv hE => wpAny_nextOf_list_end hh st.1 st.2 hv hE
section
variable {prog : Program} {w : World} {A : Around} {E : Value → Shared → Prop} {s : Shared}
theorem next_tup_item {j t : Addr} {k : Nat} {xs : Array Value} {v : Value} {Q : Value → Shared → Prop} (hj : s.heap.IsTupleIter j t k) (ht : s.heap.IsTuple t xs) (hv : xs[k]? = some v)
    (hQ : ∀ g, g.IsTupleIter j t (k + 1) → Heap.SameBut j s.heap g → Q v { s with heap := g }) : wpAny (model prog w) A (Builtin.SmallTypes.nextOf (.ref j)) Q E s := by
  obtain ⟨oj, h0, h1, h2⟩ := id hj
  obtain ⟨ot, g0, _, n, g1⟩ := ht
  unfold Builtin.SmallTypes.nextOf
  refine wpAny_bind (wpAny_callSpecial?_slot (name := Str.ofString "__next__") hj.typeIs F.slot_tuple_iterator_next (wpAny_call_entry F.slot_tuple_iterator_next hj.typeIs F.entry_tuple_iterator_next ?_ (F.args_tuple_iterator_next_1 _)))
  refine wpAny_bind (m := field (.ref j) 0) (wpAny_field h0 h2 (x := .ref t) rfl ?_)
  show wpAny _ _ (if (Value.ref t == Value.none) = true then _ else _) _ _ _
  rw [if_neg (show ¬ ((.ref t : Value) == .none) = true from Bool.false_ne_true)]
  refine wpAny_bind (m := field (.ref j) 1) (wpAny_field h0 h2 (x := .int k 0) rfl ?_)
  refine wpAny_bind (m := seqItems? (.ref t)) (wpAny_seqItems g0 g1 ?_)
  simp only [Int.toNat_natCast, hv]
  refine wpAny_bind (wpAny_setField h0 h2 (by simp) (wpAny_pure ⟨v, rfl, wpAny_pure (hQ _ ⟨_, Heap.get?_update_self _ h0 (Obj.isFreed_of_fields (Obj.data_mapFields h2 _)), (Obj.cls_mapFields ..).trans h1, ?_⟩ (Heap.SameBut.update ..))⟩))
  rw [Obj.data_mapFields h2]; simp [rawInt]
theorem next_tup_end {j t : Addr} {k : Nat} {xs : Array Value} {Q : Value → Shared → Prop} (hh : A.handled = none) (hj : s.heap.IsTupleIter j t k) (ht : s.heap.IsTuple t xs) (hv : xs[k]? = none)
    (hE : ∀ g e, Heap.ExtBut j s.heap g → (∃ o, g.get? e = some o ∧ o.cls = .type "StopIteration") → E (.ref e) { s with heap := g }) : wpAny (model prog w) A (Builtin.SmallTypes.nextOf (.ref j)) Q E s := by
  obtain ⟨oj, h0, h1, h2⟩ := id hj
  obtain ⟨ot, g0, _, n, g1⟩ := ht
  unfold Builtin.SmallTypes.nextOf
  refine wpAny_bind (wpAny_callSpecial?_slot (name := Str.ofString "__next__") hj.typeIs F.slot_tuple_iterator_next (wpAny_call_entry F.slot_tuple_iterator_next hj.typeIs F.entry_tuple_iterator_next ?_ (F.args_tuple_iterator_next_1 _)))
  refine wpAny_bind (m := field (.ref j) 0) (wpAny_field h0 h2 (x := .ref t) rfl ?_)
  show wpAny _ _ (if (Value.ref t == Value.none) = true then _ else _) _ _ _
  rw [if_neg (show ¬ ((.ref t : Value) == .none) = true from Bool.false_ne_true)]
  refine wpAny_bind (m := field (.ref j) 1) (wpAny_field h0 h2 (x := .int k 0) rfl ?_)
  refine wpAny_bind (m := seqItems? (.ref t)) (wpAny_seqItems g0 g1 ?_)
  simp only [Int.toNat_natCast, hv]
  refine wpAny_bind (wpAny_rule (wpAny_bind (wpAny_setField h0 h2 (by simp) (wpAny_bind (m := newExc (.type "StopIteration") []) ?_))))
  simp only [newExc, newTuple]
  refine wpAny_bind (wpAny_newObj_type (wpAny_bind (m := firstArgMember _ _) (wpAny_of_eq (a := Value.none) (by first | rfl | (simp only [firstArgMember]; rfl)) (wpAny_newObj_type ?_ (by size_fits)))) (by size_fits))
  simp only [raiseNew]
  refine wpAny_bind (wpAny_handled ?_); first | rw [show A.in1.handled = none from hh] | rw [hh]
  exact wpAny_bind (wpAny_pure (wpAny_throw (hE _ _ (((Heap.SameBut.update ..).extBut.push _).push _) ⟨_, Heap.get?_push_size _ rfl, rfl⟩)))
theorem src_tup (it l : Addr) (hne : l ≠ it) (xs : Array Value) : Src prog w it [it, l] (fun k h => h.IsTupleIter it l k ∧ h.IsTuple l xs) (fun k => xs[k]?) where
  mem := List.mem_cons_self
  there := fun k h st b hb => by
    rcases List.mem_cons.mp hb with e | hb
    · obtain ⟨o, q, _⟩ := st.1; exact ⟨o, by rw [e]; exact q⟩
    · obtain ⟨o, q, _⟩ := st.2; exact ⟨o, by rw [List.mem_singleton.mp hb]; exact q⟩
  keep := fun k h h' st q => ⟨st.1.at fun o e => q it (by simp) o e, st.2.at fun o e => q l (by simp) o e⟩
  item := fun A k s v Q E st hv hQ => next_tup_item st.1 st.2 hv fun h' a b => hQ h' ⟨a, st.2.extBut b.extBut hne⟩ b
  fin := fun A k s Q E hh st hv hE => next_tup_end hh st.1 st.2 hv hE
structure Apart2 (z TI TO i j : Addr) (f g : List Addr) : Prop where
  ti : TI ≠ z ∧ TI ≠ TO ∧ TI ≠ i ∧ TI ≠ j
  zt : z ≠ TO
  zf : z ∉ f
  zg : z ∉ g
  tf : TO ∉ f
  tg : TO ∉ g
  ig : i ∉ g
  jf : j ∉ f
variable {z TI TO i j : Addr} {f g : List Addr} {ti tj : Nat → Heap → Prop} {vi vj : Nat → Option Value} {k m : Nat} {x y a b : Value}
theorem ne_mem {p q : Addr} {l : List Addr} (hp : p ∈ l) (hq : q ∉ l) : p ≠ q := fun e => hq (e ▸ hp)
theorem Src.but {prog : Program} {w : World} {it : Addr} {fr : List Addr} {st : Nat → Heap → Prop} {val : Nat → Option Value} (S : Src prog w it fr st val) {k : Nat} {c : Addr} {h h' : Heap} (q : st k h) (e : Heap.ExtBut c h h') (hc : c ∉ fr) : st k h' :=
  S.keep k h h' q fun b hb o ho => e b o (ne_mem hb hc) ho
theorem zip2_item (S : Src prog w i f ti vi) (T : Src prog w j g tj vj) (D : Apart2 z TI TO i j f g) {Q : Value → Shared → Prop}
    (hz : IsZip s.heap z TI TO .none) (hTI : IsPair s.heap TI (.ref i) (.ref j)) (hTO : IsPair s.heap TO a b) (hi : ti k s.heap) (hj : tj m s.heap) (hx : vi k = some x) (hy : vj m = some y)
    (hQ : ∀ h', IsZip h' z TI TO (rawInt s.heap.objs.size) → IsPair h' TO x y → ti (k + 1) h' → tj (m + 1) h' → IsPair h' s.heap.objs.size x y → h'.objs.size = s.heap.objs.size + 1 → (∀ c o, c ∉ [z, TO, i, j] → s.heap.get? c = some o → h'.get? c = some o) → Q (.ref s.heap.objs.size) { s with heap := h' }) :
    wpAny (model prog w) A (Builtin.«zip.__next__» ⟨[.ref z], []⟩) (fun fin s' => ∃ v, fin = .done (.ret v) ∧ Q v s') E s := by
  have iz : i ≠ z := ne_mem S.mem D.zf
  have jz : j ≠ z := ne_mem T.mem D.zg
  have iTO : i ≠ TO := ne_mem S.mem D.tf
  have jTO : j ≠ TO := ne_mem T.mem D.tg
  have ij : i ≠ j := ne_mem S.mem D.jf
  refine wpAny_bind (m := field (.ref z) 2) (wpAny_field hz rfl (x := .bool false) rfl ?_)
  refine wpAny_bind (m := field (.ref z) 3) (wpAny_field hz rfl (x := .ref TI) rfl (wpAny_bind (wpAny_seqItems hTI rfl ?_)))
  refine wpAny_bind (m := Builtin.SmallTypes.ownedTupleIsFree (.ref z)) ?_
  unfold Builtin.SmallTypes.ownedTupleIsFree
  refine wpAny_bind (wpAny_field hz rfl (x := .none) rfl (wpAny_pure ?_)); simp only [if_true]
  refine wpAny_bind (wpAny_rule (wpAny_bind (wpAny_field hz rfl (x := .ref TO) rfl (wpAny_bind (wpAny_setField_rec hz (by simp) fun q1 z1 s1 => ?_)))))
  replace z1 : IsZip q1 z TI TO .ellipsis := z1
  refine wpAny_bind ?_; simp only [List.zipIdx_cons, List.zipIdx_nil, List.forIn_cons, List.forIn_nil]
  refine wpAny_bind (wpAny_bind (wpAny_onRaise (wpAny_bind (m := Builtin.SmallTypes.nextOf (.ref i)) (S.item _ k _ x _ _ (S.but hi s1.extBut D.zf) hx fun q2 i2 s2 => wpAny_pure ?_))))
  have o2 : IsPair q2 TO a b := s2.extBut _ _ iTO.symm (s1.extBut _ _ D.zt.symm hTO)
  refine wpAny_bind (wpAny_seqItems o2 rfl (wpAny_bind (wpAny_updateSeq_pair o2 fun q3 o3 s3 => wpAny_bind (wpAny_letGo (wpAny_pure ?_)))))
  replace o3 : IsPair q3 TO x b := o3
  have j3 : tj m q3 := T.but (T.but (T.but hj s1.extBut D.zg) s2.extBut D.ig) s3.extBut D.tg
  refine wpAny_bind (wpAny_bind (wpAny_onRaise (wpAny_bind (m := Builtin.SmallTypes.nextOf (.ref j)) (T.item _ m _ y _ _ j3 hy fun q4 j4 s4 => wpAny_pure ?_))))
  have o4 : IsPair q4 TO x b := s4.extBut _ _ jTO.symm o3
  refine wpAny_bind (wpAny_seqItems o4 rfl (wpAny_bind (wpAny_updateSeq_pair o4 fun q5 o5 s5 => wpAny_bind (wpAny_letGo (wpAny_pure (wpAny_pure ?_))))))
  replace o5 : IsPair q5 TO x y := o5
  refine wpAny_bind (wpAny_seqItems o5 rfl (wpAny_bind (wpAny_newTuple ?_)))
  have sz : q5.objs.size = s.heap.objs.size := by rw [s5.1, s4.1, s3.1, s2.1, s1.1]
  have z5 : IsZip q5 z TI TO .ellipsis := s5.extBut _ _ D.zt (s4.extBut _ _ jz.symm (s3.extBut _ _ D.zt (s2.extBut _ _ iz.symm z1)))
  have k5 : ∀ c o, c ∉ [z, TO, i, j] → s.heap.get? c = some o → q5.get? c = some o := fun c o hc e => by
    simp only [List.mem_cons, List.not_mem_nil, or_false, not_or] at hc
    exact s5.extBut _ _ hc.2.1 (s4.extBut _ _ hc.2.2.2 (s3.extBut _ _ hc.2.1 (s2.extBut _ _ hc.2.2.1 (s1.extBut _ _ hc.1 e))))
  have i5 : ti (k + 1) q5 := S.but (S.but (S.but i2 s3.extBut D.tf) s4.extBut D.jf) s5.extBut D.tf
  have j5 : tj (m + 1) q5 := T.but j4 s5.extBut D.tg
  have zlt : z < q5.objs.size := Heap.lt_size z5
  refine wpAny_bind (m := Builtin.SmallTypes.ownedTupleHandOut (.ref z) (.ref q5.objs.size)) ?_
  unfold Builtin.SmallTypes.ownedTupleHandOut
  have z6 : IsZip (q5.push { cls := .type "tuple", data := .seq #[x, y] }) z TI TO .ellipsis := Heap.get?_push_of_some _ z5
  refine wpAny_bind (wpAny_setField_rec z6 (by simp) fun q7 z7 s7 => ?_)
  replace z7 : IsZip q7 z TI TO (rawInt q5.objs.size) := z7
  refine wpAny_setField_rec z7 (by simp) fun q8 z8 s8 => ?_
  replace z8 : IsZip q8 z TI TO (rawInt q5.objs.size) := z8
  have up : ∀ c o, c ≠ z → q5.get? c = some o → q8.get? c = some o := fun c o hc e => s8.extBut _ _ hc (s7.extBut _ _ hc (Heap.get?_push_of_some _ e))
  have t8 : IsPair q8 q5.objs.size x y := s8.extBut _ _ (Nat.ne_of_gt zlt) (s7.extBut _ _ (Nat.ne_of_gt zlt) (Heap.get?_push_size _ rfl))
  have n8 : q8.objs.size = q5.objs.size + 1 := by rw [s8.1, s7.1, Heap.size_push]
  rw [sz] at z8 t8 n8
  refine wpAny_pure ⟨_, rfl, ?_⟩
  show Q (.ref q5.objs.size) _
  rw [sz]
  exact hQ q8 z8 (up _ _ D.zt.symm o5) (S.keep _ _ _ i5 fun c hc o e => up c o (ne_mem hc D.zf) e) (T.keep _ _ _ j5 fun c hc o e => up c o (ne_mem hc D.zg) e) t8 n8 fun c o hc e => up c o (fun q => hc (by simp [q])) (k5 c o hc e)
theorem zip2_end (hh : A.handled = none) (S : Src prog w i f ti vi) (T : Src prog w j g tj vj) (D : Apart2 z TI TO i j f g) {Q : Fin → Shared → Prop}
    (hz : IsZip s.heap z TI TO .none) (hTI : IsPair s.heap TI (.ref i) (.ref j)) (hTO : IsPair s.heap TO a b) (hi : ti k s.heap) (hj : tj m s.heap) (hxy : vi k = none ∨ vj m = none)
    (hE : ∀ h' e, (∀ c o, c ∉ [z, TO, i, j] → s.heap.get? c = some o → h'.get? c = some o) → (∃ o, h'.get? e = some o ∧ o.cls = .type "StopIteration") → E (.ref e) { s with heap := h' }) :
    wpAny (model prog w) A (Builtin.«zip.__next__» ⟨[.ref z], []⟩) Q E s := by
  have iz : i ≠ z := ne_mem S.mem D.zf
  have jz : j ≠ z := ne_mem T.mem D.zg
  have iTO : i ≠ TO := ne_mem S.mem D.tf
  have jTO : j ≠ TO := ne_mem T.mem D.tg
  refine wpAny_bind (m := field (.ref z) 2) (wpAny_field hz rfl (x := .bool false) rfl ?_)
  refine wpAny_bind (m := field (.ref z) 3) (wpAny_field hz rfl (x := .ref TI) rfl (wpAny_bind (wpAny_seqItems hTI rfl ?_)))
  refine wpAny_bind (m := Builtin.SmallTypes.ownedTupleIsFree (.ref z)) ?_
  unfold Builtin.SmallTypes.ownedTupleIsFree
  refine wpAny_bind (wpAny_field hz rfl (x := .none) rfl (wpAny_pure ?_)); simp only [if_true]
  refine wpAny_bind (wpAny_rule (wpAny_bind (wpAny_field hz rfl (x := .ref TO) rfl (wpAny_bind (wpAny_setField_rec hz (by simp) fun q1 z1 s1 => ?_)))))
  replace z1 : IsZip q1 z TI TO .ellipsis := z1
  refine wpAny_bind ?_; simp only [List.zipIdx_cons, List.zipIdx_nil, List.forIn_cons, List.forIn_nil]
  refine wpAny_bind (wpAny_bind (wpAny_onRaise (wpAny_bind (m := Builtin.SmallTypes.nextOf (.ref i)) ?_)))
  cases hx : vi k with
  | none =>
    refine S.fin _ k _ _ _ hh (S.but hi s1.extBut D.zf) hx fun q2 e s2 ⟨oe, he, hce⟩ => ?_
    have z2 : IsZip q2 z TI TO .ellipsis := s2 _ _ iz.symm z1
    have ez : e ≠ z := fun q => by subst q; rw [z2] at he; cases he; simp at hce
    refine wpAny_setField_rec z2 (by simp) fun q3 _ s3 => hE q3 e (fun c o hc q => ?_) ⟨oe, s3.extBut _ _ ez he, hce⟩
    simp only [List.mem_cons, List.not_mem_nil, or_false, not_or] at hc
    exact s3.extBut _ _ hc.1 (s2 _ _ hc.2.2.1 (s1.extBut _ _ hc.1 q))
  | some x =>
    have hy : vj m = none := hxy.resolve_left (by rw [hx]; exact Option.some_ne_none x)
    refine S.item _ k _ x _ _ (S.but hi s1.extBut D.zf) hx fun q2 i2 s2 => wpAny_pure ?_
    have o2 : IsPair q2 TO a b := s2.extBut _ _ iTO.symm (s1.extBut _ _ D.zt.symm hTO)
    refine wpAny_bind (wpAny_seqItems o2 rfl (wpAny_bind (wpAny_updateSeq_pair o2 fun q3 o3 s3 => wpAny_bind (wpAny_letGo (wpAny_pure ?_)))))
    have j3 : tj m q3 := T.but (T.but (T.but hj s1.extBut D.zg) s2.extBut D.ig) s3.extBut D.tg
    refine wpAny_bind (wpAny_bind (wpAny_onRaise (wpAny_bind (m := Builtin.SmallTypes.nextOf (.ref j)) (T.fin _ m _ _ _ hh j3 hy fun q4 e s4 ⟨oe, he, hce⟩ => ?_))))
    have z4 : IsZip q4 z TI TO .ellipsis := s4 _ _ jz.symm (s3.extBut _ _ D.zt (s2.extBut _ _ iz.symm z1))
    have ez : e ≠ z := fun q => by subst q; rw [z4] at he; cases he; simp at hce
    refine wpAny_setField_rec z4 (by simp) fun q5 _ s5 => hE q5 e (fun c o hc q => ?_) ⟨oe, s5.extBut _ _ ez he, hce⟩
    simp only [List.mem_cons, List.not_mem_nil, or_false, not_or] at hc
    exact s5.extBut _ _ hc.1 (s4 _ _ hc.2.2.2 (s3.extBut _ _ hc.2.1 (s2.extBut _ _ hc.2.2.1 (s1.extBut _ _ hc.1 q))))
theorem zip2_next_item (S : Src prog w i f ti vi) (T : Src prog w j g tj vj) (D : Apart2 z TI TO i j f g) {Q : Option Value → Shared → Prop}
    (hz : IsZip s.heap z TI TO .none) (hTI : IsPair s.heap TI (.ref i) (.ref j)) (hTO : IsPair s.heap TO a b) (hi : ti k s.heap) (hj : tj m s.heap) (hx : vi k = some x) (hy : vj m = some y)
    (hQ : ∀ h', IsZip h' z TI TO (rawInt s.heap.objs.size) → IsPair h' TO x y → ti (k + 1) h' → tj (m + 1) h' → IsPair h' s.heap.objs.size x y → h'.objs.size = s.heap.objs.size + 1 → (∀ c o, c ∉ [z, TO, i, j] → s.heap.get? c = some o → h'.get? c = some o) → Q (some (.ref s.heap.objs.size)) { s with heap := h' }) :
    wpAny (model prog w) A (pyNext (.ref z)) Q E s := by
  have ty : s.TypeIs (.ref z) "zip" := ⟨_, hz, rfl⟩
  unfold pyNext
  exact wpAny_bind (wpAny_attempt (wpAny_callSpecial?_slot (name := Str.ofString "__next__") ty F.slot_zip_next (wpAny_call_entry F.slot_zip_next ty F.entry_zip_next (zip2_item S T D hz hTI hTO hi hj hx hy fun h' c1 c2 c3 c4 c5 c6 c7 => wpAny_pure (hQ h' c1 c2 c3 c4 c5 c6 c7)) (F.args_zip_next_1 _))))
theorem zip2_next_end (hh : A.handled = none) (S : Src prog w i f ti vi) (T : Src prog w j g tj vj) (D : Apart2 z TI TO i j f g) {Q : Option Value → Shared → Prop}
    (hz : IsZip s.heap z TI TO .none) (hTI : IsPair s.heap TI (.ref i) (.ref j)) (hTO : IsPair s.heap TO a b) (hi : ti k s.heap) (hj : tj m s.heap) (hxy : vi k = none ∨ vj m = none)
    (hQ : ∀ h', (∀ c o, c ∉ [z, TO, i, j] → s.heap.get? c = some o → h'.get? c = some o) → Q none { s with heap := h' }) : wpAny (model prog w) A (pyNext (.ref z)) Q E s := by
  have ty : s.TypeIs (.ref z) "zip" := ⟨_, hz, rfl⟩
  unfold pyNext
  refine wpAny_bind (wpAny_attempt (wpAny_callSpecial?_slot (name := Str.ofString "__next__") ty F.slot_zip_next (wpAny_call_entry F.slot_zip_next ty F.entry_zip_next (zip2_end (show A.in1.handled = none from hh) S T D hz hTI hTO hi hj hxy fun h' e kp he => ?_) (F.args_zip_next_1 _))))
  obtain ⟨o, ho, hc⟩ := he
  exact wpAny_bind (wpAny_isInstance (T := "StopIteration") (b := true) ⟨o, ho, hc⟩ isSubtype_stop (wpAny_pure (hQ _ kp)))
end
end L2
set_option Elab.async false
set_option linter.all false
set_option maxRecDepth 100000
set_option maxHeartbeats 4000000
namespace L2
open PySem PySem.Spec PyProof.Rows
def SeqAt (h : Heap) (k : Bool) (l : Addr) (xs : Array Value) : Prop := match k with
  | true => h.IsTuple l xs
  | false => h.IsList l xs
def IterAt (h : Heap) (k : Bool) (it l : Addr) (n : Nat) : Prop := match k with
  | true => h.IsTupleIter it l n
  | false => h.IsListIter it l n
def itObj (k : Bool) (l : Addr) : Obj := match k with
  | true => { cls := .type "tuple_iterator", data := .fields #[.ref l, .int 0 0] }
  | false => { cls := .type "list_iterator", data := .fields #[.ref l, .int 0 0] }
theorem SeqAt.at {h h' : Heap} {k : Bool} {l : Addr} {xs : Array Value} (q : SeqAt h k l xs) (e : ∀ o, h.get? l = some o → h'.get? l = some o) : SeqAt h' k l xs := by
  cases k
  · exact Heap.IsList.at q e
  · exact Heap.IsTuple.at q e
theorem IterAt.at {h h' : Heap} {k : Bool} {it l : Addr} {n : Nat} (q : IterAt h k it l n) (e : ∀ o, h.get? it = some o → h'.get? it = some o) : IterAt h' k it l n := by
  cases k
  · exact Heap.IsListIter.at q e
  · exact Heap.IsTupleIter.at q e
theorem IterAt.obj {h : Heap} {k : Bool} {it l : Addr} {n : Nat} (q : IterAt h k it l n) : ∃ o fs, h.get? it = some o ∧ o.data = .fields fs := by
  cases k
  · obtain ⟨o, e, _, d⟩ := (show h.IsListIter it l n from q); exact ⟨o, _, e, d⟩
  · obtain ⟨o, e, _, d⟩ := (show h.IsTupleIter it l n from q); exact ⟨o, _, e, d⟩
theorem src_sq {prog : Program} {w : World} (k : Bool) (it l : Addr) (hne : l ≠ it) (xs : Array Value) : Src prog w it [it, l] (fun n h => IterAt h k it l n ∧ SeqAt h k l xs) (fun n => xs[n]?) := by
  cases k
  · exact src_list it l hne xs
  · exact src_tup it l hne xs
section
variable {prog : Program} {w : World} {A : Around} {E : Value → Shared → Prop} {s : Shared}
theorem iter_sq {k : Bool} {l : Addr} {xs : Array Value} {Q : Value → Shared → Prop} (h : SeqAt s.heap k l xs) (hQ : Q (.ref s.heap.objs.size) { s with heap := s.heap.push (itObj k l) }) : wpAny (model prog w) A (pyIter (.ref l)) Q E s := by
  cases k
  · exact wpAny_pyIter_list h hQ
  · exact wpAny_pyIter_tuple h hQ
abbrev zq1 (ka : Bool) (a : Addr) (h : Heap) : Heap := h.push (itObj ka a)
abbrev zq2 (ka kb : Bool) (a b : Addr) (h : Heap) : Heap := (zq1 ka a h).push (itObj kb b)
abbrev zq3 (ka kb : Bool) (a b : Addr) (h : Heap) : Heap := (zq2 ka kb a b h).push { cls := .type "tuple", data := .seq #[.ref h.objs.size, .ref (zq1 ka a h).objs.size] }
abbrev zq4 (ka kb : Bool) (a b : Addr) (h : Heap) : Heap := (zq3 ka kb a b h).push { cls := .type "tuple", data := .seq #[.none, .none] }
abbrev zq5 (ka kb : Bool) (a b : Addr) (h : Heap) : Heap := (zq4 ka kb a b h).push { cls := .type "zip", data := .fields #[.none, .bool false, .bool false, .ref (zq2 ka kb a b h).objs.size, .ref (zq3 ka kb a b h).objs.size] }
theorem zip_meets (ka kb : Bool) (a b : Addr) (xs ys : Array Value) : Meets (Builtin.«zip.__new__» ⟨[.type "zip", .ref a, .ref b], []⟩) (fun _ R s => SeqAt s.heap ka a xs ∧ SeqAt s.heap kb b ys ∧ R (.ok (.ret (.ref (zq4 ka kb a b s.heap).objs.size))) { s with heap := zq5 ka kb a b s.heap }) :=
  .of_wp fun prog w A R s h => by
    obtain ⟨hp, g, d, tk, os⟩ := s; obtain ⟨h1, h2, h⟩ := h; have hsub := sub_zip
    have q1 : SeqAt (Shared.heap ⟨hp, g, d, tk, os⟩) ka a xs := h1
    have q2 : SeqAt (Shared.heap ⟨hp.push (itObj ka a), g, d, tk, os⟩) kb b ys := h2.at fun o e => Heap.get?_push_of_some _ e
    wp_walk using iter_sq q1, iter_sq q2
    exact ⟨_, rfl, h⟩
theorem call_zq {ka kb : Bool} {a b : Addr} {xs ys : Array Value} {Q : Value → Shared → Prop} (h1 : SeqAt s.heap ka a xs) (h2 : SeqAt s.heap kb b ys)
    (h : ∀ h' n, n = s.heap.objs.size → IsZip h' (n + 4) (n + 2) (n + 3) .none → IsPair h' (n + 2) (.ref n) (.ref (n + 1)) → IsPair h' (n + 3) .none .none → IterAt h' ka n a 0 → IterAt h' kb (n + 1) b 0 → h'.objs.size = n + 5 → (∀ c o, s.heap.get? c = some o → h'.get? c = some o) → Q (.ref (n + 4)) { s with heap := h' }) :
    wpAny (model prog w) A (call (.type "zip") [.ref a, .ref b]) Q E s := by
  refine callType_new F.called_zip (by decide) (F.typeCall_zip_2 _ _) (F.newCall_zip_2 _ _) (fun ob => F.args_object_init_3 ob _ _) F.entry_zip_new (zip_meets ka kb a b xs ys) ⟨h1, h2, ?_⟩
  have n1 : (zq1 ka a s.heap).objs.size = s.heap.objs.size + 1 := Heap.size_push ..
  have n2 : (zq2 ka kb a b s.heap).objs.size = s.heap.objs.size + 2 := by rw [Heap.size_push, n1]
  have n3 : (zq3 ka kb a b s.heap).objs.size = s.heap.objs.size + 3 := by rw [Heap.size_push, n2]
  have n4 : (zq4 ka kb a b s.heap).objs.size = s.heap.objs.size + 4 := by rw [Heap.size_push, n3]
  have n5 : (zq5 ka kb a b s.heap).objs.size = s.heap.objs.size + 5 := by rw [Heap.size_push, n4]
  have f1 : IterAt (zq1 ka a s.heap) ka s.heap.objs.size a 0 := by
    cases ka <;> exact ⟨_, Heap.get?_push_size _ rfl, rfl, rfl⟩
  have f2 : IterAt (zq2 ka kb a b s.heap) kb (zq1 ka a s.heap).objs.size b 0 := by
    cases kb <;> exact ⟨_, Heap.get?_push_size _ rfl, rfl, rfl⟩
  have u2 : ∀ c o, (zq2 ka kb a b s.heap).get? c = some o → (zq5 ka kb a b s.heap).get? c = some o := fun c o e => Heap.get?_push_of_some _ (Heap.get?_push_of_some _ (Heap.get?_push_of_some _ e))
  have g5 : (zq5 ka kb a b s.heap).get? (zq4 ka kb a b s.heap).objs.size = some _ := Heap.get?_push_size _ rfl
  have g4 : (zq5 ka kb a b s.heap).get? (zq3 ka kb a b s.heap).objs.size = some _ := Heap.get?_push_of_some _ (Heap.get?_push_size _ rfl)
  have g3 : (zq5 ka kb a b s.heap).get? (zq2 ka kb a b s.heap).objs.size = some _ := Heap.get?_push_of_some _ (Heap.get?_push_of_some _ (Heap.get?_push_size _ rfl))
  have e1 : IterAt (zq5 ka kb a b s.heap) ka s.heap.objs.size a 0 := f1.at fun o e => u2 _ o (Heap.get?_push_of_some _ e)
  have e2 : IterAt (zq5 ka kb a b s.heap) kb (zq1 ka a s.heap).objs.size b 0 := f2.at fun o e => u2 _ o e
  show _ ∧ _
  rw [n2, n3, n4] at g5
  rw [n1, n2] at g3
  rw [n3] at g4
  rw [n1] at e2
  rw [n4]
  exact ⟨⟨_, g5, rfl⟩, h _ _ rfl g5 g3 g4 e1 e2 n5 fun c o e => u2 c o (Heap.get?_push_of_some _ (Heap.get?_push_of_some _ e))⟩
end
section
variable {X : Cx} {pins : List (Addr × Obj)} {σ : List (Option V)} {H : Hp} {s : Shared} {h' : Heap}
theorem Inv.turnNew {t' : Nat} {ch : List Addr} {n : Addr} {o : HO} (I : Inv X pins σ H s) (hch : ∀ b ∈ ch, FpOk X pins H b) (k : ∀ b ob, b ∉ ch → s.heap.get? b = some ob → h'.get? b = some ob) (hn : s.heap.objs.size ≤ n) (new : ObjOk X.prog X.w (upd H n o) h' n o) :
    Inv X pins σ (upd H n o) { s with heap := h', toks := t' } := by
  have fn := I.hok.fresh hn
  have up : ∀ {b u}, H b = some u → upd H n o b = some u := fun {b u} e => by rw [upd_ne (ne_of_none e fn)]; exact e
  have nch : ∀ {b u}, H b = some u → b ∉ ch := fun {b u} e z => by rw [(hch b z).1] at e; cases e
  refine I.step (g' := s.gens) (d' := s.drawn) (ch := ch) (fun b hb => ⟨(hch b hb).2.2.2.1, (hch b hb).2.1, (hch b hb).2.2.2.2.1, (hch b hb).2.2.2.2.2⟩) (fun b ob _ _ hc e _ => k b ob hc e) (fun b ob _ _ hc e _ => ⟨ob.slots, k b ob hc e⟩)
    (fun b ob _ e q => ?_) (fun b ob hc e => ⟨ob, k b ob hc e⟩) (fun _ _ e => up e) (fun _ _ _ e => up e) (fun b ps e => ⟨#[], by rw [up e]; simp⟩) (fun m hm => ?_) (fun b u e => ?_) I.bare
  · rw [upd_ne (Nat.ne_of_lt (Nat.lt_of_lt_of_le (Heap.lt_size e) hn))]; exact q
  · obtain ⟨ol, es, ep, ho, r⟩ := hm
    exact ⟨ol, es, ep, k _ ol (fun z => (hch _ z).2.1 rfl) ho, r⟩
  · by_cases hb : b = n
    · subst hb; rw [upd_same] at e; cases e; exact new
    · rw [upd_ne hb] at e
      refine (I.hok b u e).stay (fun c v hc q => k c v ?_ q) (fun c q => up q) fun c xs q => up q
      rcases hc with rfl | hc
      · exact nch e
      · exact nch hc
theorem Inv.turnL {t' : Nat} {ch : List Addr} (I : Inv X pins σ H s) (hch : ∀ b ∈ ch, FpOk X pins H b) (k : ∀ b ob, b ∉ ch → s.heap.get? b = some ob → h'.get? b = some ob) : Inv X pins σ H { s with heap := h', toks := t' } := by
  have nch : ∀ {b u}, H b = some u → b ∉ ch := fun {b u} e z => by rw [(hch b z).1] at e; cases e
  refine I.step (g' := s.gens) (d' := s.drawn) (ch := ch) (fun b hb => ⟨(hch b hb).2.2.2.1, (hch b hb).2.1, (hch b hb).2.2.2.2.1, (hch b hb).2.2.2.2.2⟩) (fun b ob _ _ hc e _ => k b ob hc e) (fun b ob _ _ hc e _ => ⟨ob.slots, k b ob hc e⟩)
    (fun _ _ _ _ q => q) (fun b ob hc e => ⟨ob, k b ob hc e⟩) (fun _ _ e => e) (fun _ _ _ e => e) (fun b ps e => ⟨#[], by rw [e]; simp⟩) (fun m hm => ?_) (fun b u e => ?_) I.bare
  · obtain ⟨ol, es, ep, ho, r⟩ := hm
    exact ⟨ol, es, ep, k _ ol (fun z => (hch _ z).2.1 rfl) ho, r⟩
  · refine (I.hok b u e).stay (fun c v hc q => k c v ?_ q) (fun _ q => q) fun _ _ q => q
    rcases hc with rfl | hc
    · exact nch e
    · exact nch hc
end
def SqK (k : Bool) (H : Hp) (a : Addr) (xs : List V) : Prop := match k with
  | true => H a = some (.tup xs)
  | false => H a = some (.lst xs)
theorem SqK.ne {k : Bool} {H : Hp} {a b : Addr} {xs : List V} (h : SqK k H a xs) (e : H b = none) : a ≠ b := fun z => by
  subst z
  cases k
  · rw [show H a = some (.lst xs) from h] at e; cases e
  · rw [show H a = some (.tup xs) from h] at e; cases e
theorem Inv.sq {X : Cx} {pins : List (Addr × Obj)} {σ : St} {H : Hp} {s : Shared} {k : Bool} {a : Addr} {xs : List V} (I : Inv X pins σ H s) (h : SqK k H a xs) : ∃ its : List Value, Vals xs its ∧ SeqAt s.heap k a its.toArray := by
  cases k
  · obtain ⟨its, r, p, _⟩ := I.list (SqL.of h); exact ⟨its, r, p.isList⟩
  · obtain ⟨its, r, p, _⟩ := I.tuple (SqT.of h); exact ⟨its, r, p⟩
def Itz (ka kb : Bool) (a b : Addr) (xs ys : List V) : It :=
  ⟨fun i H => SqK ka H a xs ∧ SqK kb H b ys ∧ i < xs.length ∧ i < ys.length, fun i H x H' => ∃ p u v, H p = none ∧ x = .ref p ∧ xs[i]? = some u ∧ ys[i]? = some v ∧ H' = upd H p (.tup [u, v]), fun i H => SqK ka H a xs ∧ SqK kb H b ys ∧ (xs.length ≤ i ∨ ys.length ≤ i)⟩
def Tnz (ka kb : Bool) (a b z TI TO p q : Addr) (i : Nat) (h : Heap) : Prop := IsZip h z TI TO .none ∧ IsPair h TI (.ref p) (.ref q) ∧ (∃ u v, IsPair h TO u v) ∧ IterAt h ka p a i ∧ IterAt h kb q b i
theorem turn_zip {P : Program} {w : World} {K : PySem.W.Frag} {elts : List Expr} {x1} {tp : Pos} (ka kb : Bool) (a b z TI TO p q : Addr) (xs ys : List V) (nd : [z, TI, TO, p, q].Nodup) : Turn P w K (.Tuple elts x1 tp) (Itz ka kb a b xs ys) [z, TI, TO, p, q] z (Tnz ka kb a b z TI TO p q) where
  mem := List.mem_cons_self
  obj := fun i h st c hc => by
    obtain ⟨e1, e2, ⟨u, v, e3⟩, e4, e5⟩ := st
    simp only [List.mem_cons, List.not_mem_nil, or_false] at hc
    rcases hc with rfl | rfl | rfl | rfl | rfl
    · exact ⟨_, e1, fun v z => by cases z⟩
    · exact ⟨_, e2, fun v z => by cases z⟩
    · exact ⟨_, e3, fun v z => by cases z⟩
    · obtain ⟨o, fs, e, d⟩ := e4.obj; exact ⟨o, e, fun v z => by rw [d] at z; cases z⟩
    · obtain ⟨o, fs, e, d⟩ := e5.obj; exact ⟨o, e, fun v z => by rw [d] at z; cases z⟩
  keep := fun i h h' st k => by
    obtain ⟨e1, e2, ⟨u, v, e3⟩, e4, e5⟩ := st
    exact ⟨k z (by simp) _ e1, k TI (by simp) _ e2, ⟨u, v, k TO (by simp) _ e3⟩, e4.at fun o e => k p (by simp) o e, e5.at fun o e => k q (by simp) o e⟩
  item := by
    intro X hP hw hK hc i pins s σ H E I hf st hg
    subst hP hw hK
    obtain ⟨e1, e2, ⟨u0, v0, e3⟩, e4, e5⟩ := st
    obtain ⟨ha, hb, l1, l2⟩ := hg
    obtain ⟨as, ra, sa⟩ := I.sq ha
    obtain ⟨bs, rb, sb⟩ := I.sq hb
    have hx : xs[i]? = some xs[i] := List.getElem?_eq_getElem l1
    have hy : ys[i]? = some ys[i] := List.getElem?_eq_getElem l2
    obtain ⟨u, hu, ru⟩ := ra.get hx
    obtain ⟨v, hv, rv⟩ := rb.get hy
    have free : ∀ c ∈ [z, TI, TO, p, q], H c = none := fun c h => (hf c h).1
    have naz : ∀ c ∈ [z, TI, TO, p, q], a ≠ c := fun c h => ha.ne (free c h)
    have nbz : ∀ c ∈ [z, TI, TO, p, q], b ≠ c := fun c h => hb.ne (free c h)
    simp only [List.nodup_cons, List.mem_cons, List.not_mem_nil, or_false, not_or, not_false_eq_true, and_true, List.nodup_nil] at nd
    obtain ⟨⟨z1, z2, z3, z4⟩, ⟨t1, t2, t3⟩, ⟨w1, w2⟩, y1⟩ := nd
    have S := src_sq (prog := X.prog) (w := X.w) ka p a (naz p (by simp)) as.toArray
    have T := src_sq (prog := X.prog) (w := X.w) kb q b (nbz q (by simp)) bs.toArray
    have D : Apart2 z TI TO p q [p, a] [q, b] := ⟨⟨Ne.symm z1, t1, t2, t3⟩, z2, by simp [z3, Ne.symm (naz z (by simp))], by simp [z4, Ne.symm (nbz z (by simp))], by simp [w1, Ne.symm (naz TO (by simp))], by simp [w2, Ne.symm (nbz TO (by simp))], by simp [y1, Ne.symm (nbz p (by simp))], by simp [Ne.symm y1, Ne.symm (naz q (by simp))]⟩
    refine zip2_next_item S T D e1 e2 e3 ⟨e4, sa⟩ ⟨e5, sb⟩ (x := u) (y := v) (by simpa using hu) (by simpa using hv) fun h1 c1 c2 c3 c4 c5 c6 c7 => ?_
    refine ⟨_, rfl, wpAny_letOwnedTupleGo_zip (s := { s with heap := h1 }) c1 fun h2 d1 d2 => ?_⟩
    have lt : z < s.heap.objs.size := Heap.lt_size e1
    have kp : ∀ c o, c ∉ [z, TO, p, q] → s.heap.get? c = some o → h2.get? c = some o := fun c o hc e => d2.extBut _ _ (fun q => hc (by simp [q])) (c7 c o hc e)
    have hn : h2.get? s.heap.objs.size = some { cls := .type "tuple", data := .seq #[u, v] } := d2.extBut _ _ (Nat.ne_of_gt lt) c5
    have I2 : Inv X pins σ (upd H s.heap.objs.size (.tup [xs[i], ys[i]])) { s with heap := h2 } := I.turnNew (t' := s.toks) (ch := [z, TO, p, q]) (fun c hc => hf c (by simp only [List.mem_cons, List.not_mem_nil, or_false] at hc ⊢; rcases hc with h | h | h | h <;> simp [h])) kp (Nat.le_refl _) ⟨(show 2 ≤ sizeLine by decide), [u, v], .cons ru (.cons rv .nil), ⟨_, hn, rfl, _, rfl⟩⟩
    have fr : H s.heap.objs.size = none := I.hok.fresh (Nat.le_refl _)
    refine ⟨.ref s.heap.objs.size, _, I2, rfl, ⟨_, _, _, fr, rfl, hx, hy, rfl⟩, ⟨d1, d2.extBut _ _ (Ne.symm z1) (c7 TI _ (by simp [Ne.symm z1, t1, t2, t3]) e2), ⟨u, v, d2.extBut _ _ (Ne.symm z2) c2⟩, c3.1.at fun o e => d2.extBut _ _ (Ne.symm z3) e, c4.1.at fun o e => d2.extBut _ _ (Ne.symm z4) e⟩, fun c hc => ?_⟩
    obtain ⟨o, ho, _⟩ : ∃ o, s.heap.get? c = some o ∧ True := by
      simp only [List.mem_cons, List.not_mem_nil, or_false] at hc
      rcases hc with rfl | rfl | rfl | rfl | rfl
      · exact ⟨_, e1, trivial⟩
      · exact ⟨_, e2, trivial⟩
      · exact ⟨_, e3, trivial⟩
      · obtain ⟨o, _, e, _⟩ := e4.obj; exact ⟨o, e, trivial⟩
      · obtain ⟨o, _, e, _⟩ := e5.obj; exact ⟨o, e, trivial⟩
    rw [upd_ne (Nat.ne_of_lt (Heap.lt_size ho))]
    exact free c hc
  done := by
    intro X hP hw hK hc i pins s σ H E I hf st hg
    subst hP hw hK
    obtain ⟨e1, e2, ⟨u0, v0, e3⟩, e4, e5⟩ := st
    obtain ⟨ha, hb, l⟩ := hg
    obtain ⟨as, ra, sa⟩ := I.sq ha
    obtain ⟨bs, rb, sb⟩ := I.sq hb
    have free : ∀ c ∈ [z, TI, TO, p, q], H c = none := fun c h => (hf c h).1
    have naz : ∀ c ∈ [z, TI, TO, p, q], a ≠ c := fun c h => ha.ne (free c h)
    have nbz : ∀ c ∈ [z, TI, TO, p, q], b ≠ c := fun c h => hb.ne (free c h)
    simp only [List.nodup_cons, List.mem_cons, List.not_mem_nil, or_false, not_or, not_false_eq_true, and_true, List.nodup_nil] at nd
    obtain ⟨⟨z1, z2, z3, z4⟩, ⟨t1, t2, t3⟩, ⟨w1, w2⟩, y1⟩ := nd
    have S := src_sq (prog := X.prog) (w := X.w) ka p a (naz p (by simp)) as.toArray
    have T := src_sq (prog := X.prog) (w := X.w) kb q b (nbz q (by simp)) bs.toArray
    have D : Apart2 z TI TO p q [p, a] [q, b] := ⟨⟨Ne.symm z1, t1, t2, t3⟩, z2, by simp [z3, Ne.symm (naz z (by simp))], by simp [z4, Ne.symm (nbz z (by simp))], by simp [w1, Ne.symm (naz TO (by simp))], by simp [w2, Ne.symm (nbz TO (by simp))], by simp [y1, Ne.symm (nbz p (by simp))], by simp [Ne.symm y1, Ne.symm (naz q (by simp))]⟩
    have la := ra.length
    have lb := rb.length
    refine zip2_next_end (I.ok.hd hc) S T D e1 e2 e3 ⟨e4, sa⟩ ⟨e5, sb⟩ (l.imp (fun h => by simp; omega) fun h => by simp; omega) fun h1 kp => ⟨rfl, I.turnL (t' := s.toks) (ch := [z, TO, p, q]) (fun c hc => hf c (by simp only [List.mem_cons, List.not_mem_nil, or_false] at hc ⊢; rcases hc with h | h | h | h <;> simp [h])) kp⟩
  self := fun _ _ _ _ _ st h => wpAny_pyIter_zip st.1 h
def kZ2 (ka : Bool) (a b : Addr) (xs : List V) (H : Hp) (R : It → Hp → Prop) : HO → Prop := fun o => match o with
  | .lst ys => R (Itz ka false a b xs ys) H
  | .tup ys => R (Itz ka true a b xs ys) H
  | _ => False
theorem m_kZ2_t (ka : Bool) (a b : Addr) (xs ys : List V) (H : Hp) (R : It → Hp → Prop) : kZ2 ka a b xs H R (.tup ys) = R (Itz ka true a b xs ys) H := rfl
def kZ1 (a b : Addr) (H : Hp) (R : It → Hp → Prop) : HO → Prop := fun o => match o with
  | .lst xs => optK (H b) (kZ2 false a b xs H R)
  | .tup xs => optK (H b) (kZ2 true a b xs H R)
  | _ => False
theorem m_kZ1_l (a b : Addr) (xs : List V) (H : Hp) (R : It → Hp → Prop) : kZ1 a b H R (.lst xs) = optK (H b) (kZ2 false a b xs H R) := rfl
def kZ0 (R : It → Hp → Prop) : List V → Hp → Prop := fun vs H => match vs with
  | [.ref a, .ref b] => optK (H a) (kZ1 a b H R)
  | _ => False
theorem m_kZ0 (R : It → Hp → Prop) (a b : Addr) (H : Hp) : kZ0 R [.ref a, .ref b] H = optK (H a) (kZ1 a b H R) := rfl
def iZip (ta : TA) : TI := fun σ H R => ta σ H (kZ0 R)
theorem m_iZip (ta : TA) (σ : St) (H : Hp) (R : It → Hp → Prop) : iZip ta σ H R = ta σ H (kZ0 R) := rfl
theorem kZ0_ex {R : It → Hp → Prop} {vs : List V} {H : Hp} (h : kZ0 R vs H) : ∃ a b ka kb xs ys, vs = [.ref a, .ref b] ∧ SqK ka H a xs ∧ SqK kb H b ys ∧ R (Itz ka kb a b xs ys) H := by
  unfold kZ0 at h
  split at h
  · rename_i a b
    obtain ⟨o, e, h⟩ := optK_ex h
    unfold kZ1 at h
    split at h
    · rename_i xs
      obtain ⟨o', e', h⟩ := optK_ex h
      unfold kZ2 at h
      split at h
      · exact ⟨a, b, false, false, xs, _, rfl, e, e', h⟩
      · exact ⟨a, b, false, true, xs, _, rfl, e, e', h⟩
      · exact h.elim
    · rename_i xs
      obtain ⟨o', e', h⟩ := optK_ex h
      unfold kZ2 at h
      split at h
      · exact ⟨a, b, true, false, xs, _, rfl, e, e', h⟩
      · exact ⟨a, b, true, true, xs, _, rfl, e, e', h⟩
      · exact h.elim
    · exact h.elim
  · exact h.elim
section
variable {X : Cx}
theorem pi_zip {a b : Expr} {elts : List Expr} {x1} {tp : Pos} {ta : TA} {p pos : Pos} (hg : Gl X "zip") (hm : X.mg "zip" = none) (ha : PA X [a, b] ta) (hs : starEach [a, b] X.env = [(false, eval a X.env), (false, eval b X.env)] := by rfl) (hs2 : starEach [b] X.env = [(false, eval b X.env)] := by rfl) :
    PI X (.Tuple elts x1 tp) (.Call (.Name "zip" p) [a, b] [] pos) (iZip ta) := by
  intro pins s σ H R I h
  refine Call_ (ld_blt I hg hm (show bootBuiltins "zip" = some (.type "zip") by decide +kernel) (PyProof.Rows.callWith_type1 (thn (ha pos pins s σ H _ I h) fun us s1 ⟨vs, H1, I1, r1, q1⟩ => ?_) (by rw [hs, hs2]) (by rw [hs2]; rfl)))
  obtain ⟨a, b, ka, kb, xs, ys, rfl, sa, sb, q⟩ := kZ0_ex q1
  cases r1 with
  | cons r rr =>
    cases rr with
    | cons r' rr =>
      cases rr
      cases r
      cases r'
      obtain ⟨as, ra, s1a⟩ := I1.sq sa
      obtain ⟨bs, rb, s1b⟩ := I1.sq sb
      refine call_zq s1a s1b fun h' n hn e1 e2 e3 e4 e5 e6 e7 => ?_
      have I2 : Inv X pins σ H1 { s1 with heap := h' } := I1.kept (t' := s1.toks) e7
      refine wpAny_pyIter_zip (s := { s1 with heap := h' }) e1 ⟨n + 4, [n + 4, n + 2, n + 3, n, n + 1], _, _, H1, rfl, I2, turn_zip ka kb a b (n + 4) (n + 2) (n + 3) n (n + 1) xs ys (by simp), ⟨e1, e2, ⟨_, _, e3⟩, e4, e5⟩, fun c hc => ?_, q⟩
      have hle : s1.heap.objs.size ≤ c := by
        rw [← hn]
        simp only [List.mem_cons, List.not_mem_nil, or_false] at hc
        rcases hc with rfl | rfl | rfl | rfl | rfl
        · exact Nat.le_add_right ..
        · exact Nat.le_add_right ..
        · exact Nat.le_add_right ..
        · exact Nat.le_refl _
        · exact Nat.le_add_right ..
      exact I1.fpOk hle (I1.hok.fresh hle)
end
end L2
set_option Elab.async false
set_option linter.all false
set_option maxRecDepth 100000
set_option maxHeartbeats 4000000
namespace L2
open PySem PySem.Spec PyProof.Rows
def kCm2 (te : TE) (σ2 : St) (N1 : VK) (N0 : Hp → Prop) : Bool → Hp → Prop := fun b H => if b = true then te σ2 H N1 else N0 H
theorem m_kCm2 (te : TE) (σ2 : St) (N1 : VK) (N0 : Hp → Prop) (b : Bool) (H : Hp) : kCm2 te σ2 N1 N0 b H = (if b = true then te σ2 H N1 else N0 H) := rfl
def kCm (k : Nat) (tt : TT) (te : TE) (σ : St) (N1 : VK) (N0 : Hp → Prop) : St → Hp → Prop := fun σ2 H => (∃ vs : St, vs.length = k ∧ σ2 = vs ++ σ) ∧ tt σ2 H (kCm2 te σ2 N1 N0)
theorem m_kCm_1 (tt : TT) (te : TE) (σ : St) (N1 : VK) (N0 : Hp → Prop) (a : Option V) (H : Hp) : kCm 1 tt te σ N1 N0 (a :: σ) H = tt (a :: σ) H (kCm2 te (a :: σ) N1 N0) := propext ⟨fun h => h.2, fun h => ⟨⟨[a], rfl, rfl⟩, h⟩⟩
theorem m_rep_1 (σ : St) : List.replicate 1 (none : Option V) ++ σ = none :: σ := rfl
def Al {α : Type} (R : α → V → Prop) (zs : List α) (ys : List V) : Prop := ys.length = zs.length ∧ ∀ (i : Nat) z y, zs[i]? = some z → ys[i]? = some y → R z y
theorem Al.nil {α : Type} {R : α → V → Prop} : Al R [] [] := ⟨rfl, fun i z y h => by simp at h⟩
theorem Al.snoc {α : Type} {R : α → V → Prop} {zs : List α} {ys : List V} {z : α} {y : V} (h : Al R zs ys) (r : R z y) : Al R (zs ++ [z]) (ys ++ [y]) := by
  refine ⟨by simp [h.1], fun i z' y' h1 h2 => ?_⟩
  by_cases hi : i < zs.length
  · rw [List.getElem?_append_left hi] at h1
    rw [List.getElem?_append_left (by rw [h.1]; exact hi)] at h2
    exact h.2 i z' y' h1 h2
  · rw [List.getElem?_append_right (by omega)] at h1
    rw [List.getElem?_append_right (by rw [h.1]; omega), h.1] at h2
    by_cases h0 : i - zs.length = 0
    · rw [h0] at h1 h2; simp at h1 h2; subst h1; subst h2; exact r
    · rw [List.getElem?_eq_none (by simp; omega)] at h1; cases h1
theorem Al.imp {α : Type} {R S : α → V → Prop} {zs : List α} {ys : List V} (h : Al R zs ys) (f : ∀ z y, R z y → S z y) : Al S zs ys := ⟨h.1, fun i z y a b => f z y (h.2 i z y a b)⟩
theorem Al.map {α : Type} {f : α → V} {zs : List α} {ys : List V} (h : Al (fun z y => y = f z) zs ys) : ys = zs.map f := by
  apply List.ext_getElem?
  intro i
  rw [List.getElem?_map]
  by_cases hi : i < zs.length
  · have e1 : zs[i]? = some zs[i] := List.getElem?_eq_getElem hi
    have e2 : ys[i]? = some (ys[i]'(by rw [h.1]; exact hi)) := List.getElem?_eq_getElem _
    rw [e1, e2, h.2 i _ _ e1 e2]; rfl
  · have := h.1; rw [List.getElem?_eq_none (show ys.length ≤ i by omega), List.getElem?_eq_none (show zs.length ≤ i by omega)]; rfl
section
variable {k : Nat} {g : TG} {tt : TT} {te : TE} {σ : St} {Q : VK} {H : Hp} {K : PySem.W.Frag}
theorem comp_rel {α : Type} {J : It} (zs : List α) (c : α → Bool) (P : α → V → Hp → Prop) (R : Addr → α → V → Hp → Prop)
    (hgo : ∀ i z H', zs[i]? = some z → Ext H H' → J.go i H' ∧ ∀ x H'', J.yld i H' x H'' → Ext H' H'' ∧ P z x H'')
    (hst : ∀ H', Ext H H' → J.stop zs.length H')
    (hR1 : ∀ D z y H1 H2, R D z y H1 → Ext H1 H2 → R D z y H2) (hR2 : ∀ D z y H1 o, R D z y H1 → R D z y (upd H1 D o))
    (hl : zs.length ≤ sizeLine)
    (hs : ∀ D z x H' N1 N0, z ∈ zs → H D = none → Ext H H' → (∃ ys, H' D = some (.lst ys)) → P z x H' → (c z = true → ∀ y H'', Ext H' H'' → R D z y H'' → N1 y H'') → (c z = false → ∀ H'', Ext H' H'' → N0 H'') → g x (List.replicate k none ++ σ) H' (kCm k tt te σ N1 N0))
    (hd : ∀ D ys H', H D = none → Ext H H' → H' D = some (.lst ys) → Al (fun z y => R D z y H') (zs.filter c) ys → Q (.ref D) H') : kComp k g tt te σ Q J H := by
  intro D hD
  refine ⟨fun i m ys H' => m = zs.length - i ∧ i ≤ zs.length ∧ Ext H H' ∧ H' D = some (.lst ys) ∧ Al (fun z y => R D z y H') ((zs.take i).filter c) ys, ⟨zs.length, by simp, Nat.zero_le _, Ext.new hD, upd_same, by simpa using Al.nil⟩, ?_⟩
  rintro i m ys H' ⟨rfl, hi, e, hD', al⟩
  by_cases hlt : i < zs.length
  · have hz : zs[i]? = some zs[i] := List.getElem?_eq_getElem hlt
    obtain ⟨go, y⟩ := hgo i zs[i] H' hz e
    have tk : zs.take (i + 1) = zs.take i ++ [zs[i]] := by rw [List.take_succ, hz]; rfl
    have ln : ys.length < sizeLine := by
      have h1 := al.1
      have h2 := List.length_filter_le c (zs.take i)
      simp only [List.length_take] at h2
      omega
    refine .inr ⟨go, fun ys' H2 => Ext H H2 ∧ H2 D = some (.lst ys') ∧ Al (fun z y => R D z y H2) ((zs.take (i + 1)).filter c) ys', fun ys' H2 p => ⟨zs.length - (i + 1), by omega, rfl, hlt, p⟩, fun x H2 z => ?_⟩
    obtain ⟨e2, p2⟩ := y x H2 z
    refine hs D zs[i] x H2 (kC3 D ys _) _ (List.getElem_mem hlt) hD (e.trans e2) ⟨ys, e2.at hD'⟩ p2 (fun hc y H3 e3 r3 => ?_) fun hc H3 e3 => ?_
    · refine ⟨e3.at (e2.at hD'), ln, (e.trans (e2.trans e3)).put hD, upd_same, ?_⟩
      rw [tk, List.filter_append, show [zs[i]].filter c = [zs[i]] by simp [hc]]
      exact Al.snoc (al.imp fun z y r => hR2 _ _ _ _ _ (hR1 _ _ _ _ _ r (e2.trans e3))) (hR2 _ _ _ _ _ r3)
    · refine ⟨e.trans (e2.trans e3), (e2.trans e3).at hD', ?_⟩
      rw [tk, List.filter_append, show [zs[i]].filter c = [] by simp [hc], List.append_nil]
      exact al.imp fun z y r => hR1 _ _ _ _ _ r (e2.trans e3)
  · have e' : i = zs.length := by omega
    subst e'
    rw [List.take_length] at al
    exact .inl ⟨hst H' e, hd D ys H' hD e hD' al⟩
theorem comp_fm {α : Type} {J : It} (zs : List α) (c : α → Bool) (f : α → V) (P : α → V → Hp → Prop)
    (hgo : ∀ i z H', zs[i]? = some z → Ext H H' → J.go i H' ∧ ∀ x H'', J.yld i H' x H'' → Ext H' H'' ∧ P z x H'')
    (hst : ∀ H', Ext H H' → J.stop zs.length H') (hl : zs.length ≤ sizeLine)
    (hs : ∀ D z x H' N1 N0, z ∈ zs → H D = none → Ext H H' → P z x H' → (c z = true → ∀ H'', Ext H' H'' → N1 (f z) H'') → (c z = false → ∀ H'', Ext H' H'' → N0 H'') → g x (List.replicate k none ++ σ) H' (kCm k tt te σ N1 N0))
    (hd : ∀ D H', H D = none → Ext H H' → H' D = some (.lst ((zs.filter c).map f)) → Q (.ref D) H') : kComp k g tt te σ Q J H :=
  comp_rel zs c P (fun _ z y _ => y = f z) hgo hst (fun _ _ _ _ _ r _ => r) (fun _ _ _ _ _ r => r) hl (fun D z x H' N1 N0 hz hD e _ p k1 k0 => hs D z x H' N1 N0 hz hD e p (fun hc H'' e' => k1 hc _ H'' e' rfl) k0) fun D ys H' hD e hD' al => hd D H' hD e (by rw [← al.map]; exact hD')
theorem wk_rng {lo : Int} {n : Nat} : (∀ i z H', (List.range n)[i]? = some z → Ext H H' → (Itr lo n).go i H' ∧ ∀ x H'', (Itr lo n).yld i H' x H'' → Ext H' H'' ∧ x = .int (lo + (z : Nat))) ∧ ∀ H', Ext H H' → (Itr lo n).stop (List.range n).length H' := by
  refine ⟨fun i z H' hz _ => ?_, fun H' _ => by simp [Itr]⟩
  obtain ⟨h1, h2⟩ := List.getElem?_eq_some_iff.mp hz
  have e : i = z := by simpa using h2
  subst e
  exact ⟨(show i < n by simpa using h1), fun x H'' y => ⟨by rw [y.1]; exact Ext.refl _, y.2⟩⟩
theorem wk_lst {a : Addr} {xs : List V} (h : H a = some (.lst xs)) : (∀ i z H', xs[i]? = some z → Ext H H' → (Itl K a).go i H' ∧ ∀ x H'', (Itl K a).yld i H' x H'' → Ext H' H'' ∧ (x = z ∧ H'' a = some (.lst xs))) ∧ ∀ H', Ext H H' → (Itl K a).stop xs.length H' :=
  ⟨fun i z H' hz e => ⟨⟨xs, z, SqL.of (e.at h), hz⟩, fun x H'' y => ⟨by rw [y.1]; exact Ext.refl _, Option.some.inj ((y.2 xs (SqL.of (e.at h))).symm.trans hz), by rw [y.1]; exact e.at h⟩⟩, fun H' e => ⟨xs, SqL.of (e.at h), Nat.le_refl _⟩⟩
theorem wk_tup {a : Addr} {xs : List V} (h : H a = some (.tup xs)) : (∀ i z H', xs[i]? = some z → Ext H H' → (Itt K a).go i H' ∧ ∀ x H'', (Itt K a).yld i H' x H'' → Ext H' H'' ∧ (x = z ∧ H'' a = some (.tup xs))) ∧ ∀ H', Ext H H' → (Itt K a).stop xs.length H' :=
  ⟨fun i z H' hz e => ⟨⟨xs, z, SqT.of (e.at h), hz⟩, fun x H'' y => ⟨by rw [y.1]; exact Ext.refl _, Option.some.inj ((y.2 xs (SqT.of (e.at h))).symm.trans hz), by rw [y.1]; exact e.at h⟩⟩, fun H' e => ⟨xs, SqT.of (e.at h), Nat.le_refl _⟩⟩
theorem for_zip {tb : TS} {nx : St → Hp → Prop} {rt : VK} {bk ct : St → Hp → Prop} {ka kb : Bool} {a b : Addr} {xs ys : List V} (Pv : Nat → St → Hp → Prop) (h0 : Pv 0 σ H) (hl : ∀ i σ H, Pv i σ H → SqK ka H a xs ∧ SqK kb H b ys)
    (hs : ∀ i u v p σ H H', xs[i]? = some u → ys[i]? = some v → Pv i σ H → H p = none → Ext H H' → H' p = some (.tup [u, v]) → g (.ref p) σ H' (kBody tb ⟨Pv (i + 1), rt, nx, Pv (i + 1)⟩)) (hd : ∀ σ H, Pv (min xs.length ys.length) σ H → nx σ H) : kFor g tb ⟨nx, rt, bk, ct⟩ σ (Itz ka kb a b xs ys) H := by
  refine ⟨fun i m σ H => m = min xs.length ys.length - i ∧ i ≤ min xs.length ys.length ∧ Pv i σ H, ⟨min xs.length ys.length, by simp, Nat.zero_le _, h0⟩, ?_⟩
  rintro i m σ H ⟨rfl, hi, p⟩
  obtain ⟨qa, qb⟩ := hl i σ H p
  by_cases hlt : i < min xs.length ys.length
  · refine .inr ⟨⟨qa, qb, by omega, by omega⟩, Pv (i + 1), fun σ' H' p' => ⟨min xs.length ys.length - (i + 1), by omega, rfl, hlt, p'⟩, fun x H' y => ?_⟩
    obtain ⟨r, u, v, hr, rfl, hu, hv, rfl⟩ := y
    exact hs i u v r σ H _ hu hv p hr (Ext.new hr) upd_same
  · have e : i = min xs.length ys.length := by omega
    subst e
    exact .inl ⟨⟨qa, qb, by omega⟩, hd σ H p⟩
end
def compB (sc : Scope) (N : List Str) (scope : Scope) (N' : List Str) (k : Nat) : Bool :=
  scope.names.all (fun y => !(y.2 == .cell)) && (scope.kind == .function) && scope.names.all (fun y => !(y.2 == .local) || scope.names.lookup y.1 == some .local) && scope.names.all (fun y => !(y.2 == .free) || sc.names.lookup y.1 == some .cell) && decide (N'.length = k + N.length) &&
    ((N'.drop k).zip N).all (fun p => (!(scope.names.lookup p.1 == some .free) || decide (p.1 = p.2)) && !(scope.names.lookup p.1 == some .local))
theorem comp_ok {X : Cx} {scope : Scope} {N' : List Str} {k : Nat} (sc : Scope) (N : List Str) (h1 : X.env.scope = sc) (h2 : X.N = N) (h : compB sc N scope N' k = true) : CompOk X scope N' k := by
  unfold compB at h
  simp only [Bool.and_eq_true, decide_eq_true_eq] at h
  obtain ⟨⟨⟨⟨⟨a1, a2⟩, a3⟩, a4⟩, a5⟩, a6⟩ := h
  rw [List.all_eq_true] at a1 a3 a4 a6
  have pr : ∀ i x, N'[k + i]? = some x → ∃ y, N[i]? = some y ∧ (x, y) ∈ (N'.drop k).zip N := fun i x hx => by
    have h0 := (List.getElem?_eq_some_iff.mp hx).1
    have hi : i < N.length := by omega
    have e1 : (N'.drop k)[i]? = some x := by rw [List.getElem?_drop]; exact hx
    have e2 : N[i]? = some N[i] := List.getElem?_eq_getElem hi
    refine ⟨_, e2, List.mem_of_getElem? (i := i) ?_⟩
    rw [List.getElem?_zip_eq_some]
    exact ⟨e1, e2⟩
  refine ⟨fun y hy e => ?_, by simpa using a2, fun y hy e => ?_, fun y hy e => ?_, by rw [h2]; exact a5, fun i x hx hf => ?_, fun i x hx hf => ?_⟩
  · have := a1 y hy; rw [e] at this; simp at this
  · have := a3 y hy; rw [e] at this; simpa using this
  · have := a4 y hy; rw [e] at this; rw [h1]; simpa using this
  · obtain ⟨y, hy, hm⟩ := pr i x hx
    have := a6 _ hm
    simp only [hf] at this
    rw [h2, hy]
    simp at this
    rw [this]
  · obtain ⟨y, hy, hm⟩ := pr i x hx
    have := a6 _ hm
    simp [hf] at this
end L2
set_option Elab.async false
set_option linter.all false
set_option maxRecDepth 100000
set_option maxHeartbeats 4000000
namespace L2
open PySem PySem.Spec PyProof.Rows
section
variable {X : Cx} {e o value : Expr} {ta tv : TE} {f : Str} {pos pos' : Pos}
end
section
variable {X : Cx} {CX : CXT} {k : Nat} {f C : Addr} {fd : FuncData} {ps : List Str} {sp : Sp} {dvs : List V} {ds : List Value} {E : XK} {x m : Str} {p pos apos : Pos} {e o : Expr} {es : List Expr} {ta : TE} {t : TA}
end
section
variable {X : Cx} {CX : CXT} {k : Nat} {f C : Addr} {fd : FuncData} {ps : List Str} {sp : Sp} {dvs : List V} {ds : List Value} {E : XK} {x m : Str} {p pos apos : Pos} {e o : Expr} {es : List Expr} {ta : TE} {t : TA}
end
end L2
set_option Elab.async false
set_option linter.all false
set_option maxRecDepth 100000
set_option maxHeartbeats 4000000
namespace L2
open PySem PySem.Spec PyProof.Rows
def notStar : Expr → Bool
  | .Starred .. => false
  | _ => true
theorem star_ok {e : Expr} {es : List Expr} {env : Env} (h : notStar e = true) : starEach (e :: es) env = (false, eval e env) :: starEach es env := by
  cases e <;> first | rfl | cases h
theorem pa_c {X : Cx} {e : Expr} {es : List Expr} {te : TE} {t : TA} (ha : PE X e te) (hr : PA X es t) (hn : notStar e = true := by rfl) : PA X (e :: es) (tCons te t) := pa_cons ha hr (star_ok hn)
theorem m_tXI (K : PySem.W.Frag) (t : TA) (σ : St) (H : Hp) (Q : VK) : tXI K t σ H Q = t σ H (kXI K Q) := rfl
theorem m_xSetF (K : PySem.W.Frag) (ta tv : TE) (f : Str) (nx : St → Hp → Prop) (rt : VK) (bk ct : St → Hp → Prop) (σ : St) (H : Hp) : xSetF K ta tv f ⟨nx, rt, bk, ct⟩ σ H = tv σ H (kXS0 K f ta σ nx) := rfl
theorem m_kXS0 (K : PySem.W.Frag) (f : Str) (ta : TE) (σ : St) (nx : St → Hp → Prop) (y : V) (H : Hp) : kXS0 K f ta σ nx y H = ta σ H (kXS1 K f y σ nx) := rfl
theorem m_tRaiseI (C : Addr) (sp : Sp) (E : St → XK) (t : TA) (D : Ends) (σ : St) (H : Hp) : tRaiseI C sp E t D σ H = t σ H (kRI C sp (E σ)) := rfl
theorem m_tXF (K : PySem.W.Frag) (ta : TE) (f : Str) (σ : St) (H : Hp) (Q : VK) : tXF K ta f σ H Q = ta σ H (kXF K f Q) := rfl
def spX1 (C : Addr) (f : Str) : Sp := fun vs H Q E => ∃ e x, vs = [.ref e, x] ∧ H e = some (exH e C none) ∧ ∀ dx H', H dx = none → dx ≠ e → (∀ b o, b ≠ e → H b = some o → H' b = some o) → H' e = some (exH e C (some dx)) → H' dx = some (.xd [(f, x)]) → Q .non H'
theorem l_spX1 (C : Addr) (f : Str) {vs : List V} {H : Hp} {Q : VK} {E : XK} (h : spX1 C f vs H Q E) : vs.length = 2 := by
  obtain ⟨_, _, rfl, _⟩ := h
  rfl
theorem kRI_x1 {C : Addr} {f : Str} {E : XK} {x : V} {H : Hp} (h : ∀ dx H', Ext H H' → H' dx = some (.xd [(f, x)]) → E (.ref C) (some dx) H') : kRI C (spX1 C f) E [x] H := by
  refine ⟨(show 1 ≤ sizeLine by decide), fun e he => ⟨e, x, rfl, upd_same, fun dx H' h1 h2 h3 h4 h5 => ⟨rfl, some dx, h4, fun _ z => by cases z; exact ⟨_, by rw [del_ne h2]; exact h5⟩, h dx _ (Same.ext fun b o q => ?_) (by rw [del_ne h2]; exact h5)⟩⟩⟩
  have hb : b ≠ e := ne_of_none q he
  rw [del_ne hb]
  exact h3 b o hb (by rw [upd_ne hb]; exact q)
end L2
namespace L2
open PySem PySem.Spec PyProof.Rows
def TupV (H : Hp) (z : List Int) (y : V) : Prop := ∃ q, y = .ref q ∧ H q = some (.tup (z.map V.int))
theorem TupV.ext {H H' : Hp} {z : List Int} {y : V} (h : TupV H z y) (e : Ext H H') : TupV H' z y := by
  obtain ⟨q, rfl, hq⟩ := h
  exact ⟨q, rfl, e.at hq⟩
theorem TupV.upd {H : Hp} {z : List Int} {y : V} {p : Addr} {xs : List V} {o : HO} (h : TupV H z y) (hp : H p = some (.lst xs)) : TupV (upd H p o) z y := by
  obtain ⟨q, rfl, hq⟩ := h
  exact ⟨q, rfl, by rw [upd_ne (fun z => by rw [z, hp] at hq; cases hq)]; exact hq⟩
def TupsAt (H : Hp) (p : Addr) (zs : List (List Int)) : Prop := ∃ ys, H p = some (.lst ys) ∧ Al (TupV H) zs ys
theorem TupsAt.ext {H H' : Hp} {p : Addr} {zs : List (List Int)} (h : TupsAt H p zs) (e : Ext H H') : TupsAt H' p zs := by
  obtain ⟨ys, hp, al⟩ := h
  exact ⟨ys, e.at hp, al.imp fun _ _ r => r.ext e⟩
theorem tups_all {H : Hp} {f : V → Option PyData} : ∀ {zs : List (List Int)} {ys : List V}, Al (TupV H) zs ys → allSome (ys.map (datF H (datF H f))) = some (zs.map fun z => PyData.tuple (z.map PyData.int))
  | [], ys, h => by rw [List.eq_nil_of_length_eq_zero h.1]; rfl
  | z :: zs, [], h => by have := h.1; simp at this
  | z :: zs, y :: ys, h => by
    obtain ⟨q, rfl, hq⟩ := h.2 0 z y rfl rfl
    have ih := tups_all (H := H) (f := f) (zs := zs) (ys := ys) ⟨by have := h.1; simpa using this, fun i z y a b => h.2 (i + 1) z y (by simpa using a) (by simpa using b)⟩
    have e1 : datF H (datF H f) (.ref q) = some (.tuple (z.map PyData.int)) := by
      rw [m_datF_ref, hq]
      show datO (datF H f) (.tup (z.map V.int)) = _
      rw [m_datO_tup, allSome_ints]; rfl
    rw [List.map_cons, e1, m_allSome_cons, ih]; rfl
theorem tups_eqv : ∀ zs : List (List Int), PyData.eqvAll (zs.map fun z => PyData.tuple (z.map PyData.int)) (zs.map fun z => PyData.tuple (z.map PyData.int)) = true
  | [] => by rw [List.map_nil, eqvAll_nil]
  | z :: zs => by rw [List.map_cons, eqvAll_cons, eqv_tuple, eqvAll_ints, tups_eqv zs]; simp
theorem len5000 {n : Nat} (h : n ≤ 5000) : n ≤ sizeLine := Nat.le_trans h (by decide)
theorem lt5000 {n : Nat} (h : n < 5000) : n < sizeLine := Nat.lt_of_lt_of_le h (by decide)
def kCT2 (xs : List V) (H : Hp) (Q : VK) : List V → Prop := fun ys => xs.length + ys.length ≤ sizeLine ∧ ∀ (p : Addr) (H' : Hp), Ext H H' → H' p = some (.tup (xs ++ ys)) → Q (.ref p) H'
theorem x_kCT2 (xs : List V) (H : Hp) (Q : VK) (ys : List V) : kCT2 xs H Q ys = (xs.length + ys.length ≤ sizeLine ∧ ∀ (p : Addr) (H' : Hp), Ext H H' → H' p = some (.tup (xs ++ ys)) → Q (.ref p) H') := rfl
def kCT1 (b : Addr) (H : Hp) (Q : VK) : List V → Prop := fun xs => optK (tupAt H b) (kCT2 xs H Q)
theorem m_kCT1 (b : Addr) (H : Hp) (Q : VK) (xs : List V) : kCT1 b H Q xs = optK (tupAt H b) (kCT2 xs H Q) := rfl
def nCatT : R2 := fun x y H Q => match x, y with
  | .ref l, .ref b => optK (tupAt H l) (kCT1 b H Q)
  | _, _ => False
theorem m_nCatT (l b : Addr) (H : Hp) (Q : VK) : nCatT (.ref l) (.ref b) H Q = optK (tupAt H l) (kCT1 b H Q) := rfl
theorem op_nCatT {X : Cx} : OpR X (binaryOp .Add) nCatT := by
  intro pins s σ H x y v u Q I rx ry h
  unfold nCatT at h
  split at h
  · rename_i l b
    obtain ⟨xs, e1, h⟩ := optK_ex h
    obtain ⟨ys, e2, hz, k⟩ := optK_ex h
    have g1 := tup_of e1
    have g2 := tup_of e2
    by_cases hx : xs = []
    · subst hx
      cases rx
      cases ry
      obtain ⟨its, r1, p1, _⟩ := I.tuple (SqT.of g1)
      obtain ⟨its2, r2, p2, _⟩ := I.tuple (SqT.of g2)
      obtain ⟨⟨cls, dd, data, sl⟩, ho, hc, n, hd⟩ := id p1
      obtain ⟨⟨cls2, dd2, data2, sl2⟩, ho2, hc2, n2, hd2⟩ := id p2
      simp only at hc hd hc2 hd2
      subst hc hd hc2 hd2
      cases r1
      exact concat_meets ⟨_, ho, rfl⟩ ⟨_, ho2, rfl⟩ noFill_tuple_add seq_tuple_add PySem.F.slot_tuple_add PySem.F.entry_tuple_add (PySem.F.args_tuple_add_2 _ _)
        (tuple_addW0 l b #[] its2.toArray n n2 dd dd2 sl sl2 (by simp)) ⟨ho, ho2, show EP X pins σ Q (.ref b) s from ⟨.ref b, H, I, rfl, k b H (Ext.refl _) (by rw [List.nil_append]; exact g2)⟩⟩
    · refine op_catT pins s σ H (.ref l) (.ref b) v u Q I rx ry ⟨l, b, xs, ys, rfl, rfl, SqT.of g1, SqT.of g2, hx, hz, fun hy => ?_, fun hy p hp => k p _ (Ext.new hp) upd_same⟩
      subst hy
      exact k l H (Ext.refl _) (by rw [List.append_nil]; exact g1)
  · exact h.elim
end L2
set_option Elab.async false
set_option linter.all false
set_option maxRecDepth 100000
set_option maxHeartbeats 4000000
namespace L2
open PySem PySem.Spec PyProof.Rows
theorem wk_al {K : PySem.W.Frag} {H : Hp} {α : Type} {R : α → V → Hp → Prop} (hR : ∀ z y H H', R z y H → Ext H H' → R z y H') {l : Addr} {ys : List V} {zs : List α} (h : H l = some (.lst ys)) (al : Al (fun z y => R z y H) zs ys) :
    (∀ i z H', zs[i]? = some z → Ext H H' → (Itl K l).go i H' ∧ ∀ x H'', (Itl K l).yld i H' x H'' → Ext H' H'' ∧ R z x H'') ∧ ∀ H', Ext H H' → (Itl K l).stop zs.length H' := by
  refine ⟨fun i z H' hz e => ?_, fun H' e => ⟨ys, SqL.of (e.at h), by rw [al.1]; exact Nat.le_refl _⟩⟩
  have hi : i < ys.length := by rw [al.1]; exact (List.getElem?_eq_some_iff.mp hz).1
  have hy : ys[i]? = some ys[i] := List.getElem?_eq_getElem hi
  refine ⟨⟨ys, ys[i], SqL.of (e.at h), hy⟩, fun x H'' y => ?_⟩
  have hx : x = ys[i] := Option.some.inj ((y.2 ys (SqL.of (e.at h))).symm.trans hy)
  refine ⟨by rw [y.1]; exact Ext.refl _, ?_⟩
  rw [hx, y.1]
  exact hR _ _ _ _ (al.2 i z _ hz hy) e
def axP (a : Int × Int) (x : V) (H : Hp) : Prop := ∃ q, x = .ref q ∧ H q = some (.tup [.int a.1, .int a.2])
theorem axP.ext {a : Int × Int} {x : V} {H H' : Hp} (h : axP a x H) (e : Ext H H') : axP a x H' := by
  obtain ⟨q, rfl, hq⟩ := h
  exact ⟨q, rfl, e.at hq⟩
end L2
set_option Elab.async false
set_option linter.all false
set_option maxRecDepth 100000
set_option maxHeartbeats 4000000
namespace L2
open PySem PySem.Spec PyProof.Rows
section
variable {prog : Program} {w : World} {A : Around} {E : Value → Shared → Prop} {s : Shared}
variable {z TI TO i j : Addr} {f g : List Addr} {ti tj : Nat → Heap → Prop} {vi vj : Nat → Option Value} {k m : Nat} {x y : Value} {t : Addr} {fl : Bool} {ot : Obj}
variable {ka kb : Bool} {a b p q : Addr} {as bs : Array Value} {n : Nat}
end
section
variable {X : Cx} {pins : List (Addr × Obj)} {σ : St} {s : Shared}
end
section
variable {X : Cx}
end
end L2
set_option Elab.async false
set_option linter.all false
set_option maxRecDepth 100000
set_option maxHeartbeats 4000000
namespace L2
open PySem PySem.Spec PyProof.Rows
section
variable {X : Cx}
end
def kExt2 (l : Addr) (xs : List V) (H : Hp) (Q : VK) : List V → Prop := fun zs => xs.length + zs.length ≤ sizeLine ∧ Q .non (upd H l (.lst (xs ++ zs)))
theorem m_kExt2 (l : Addr) (xs : List V) (H : Hp) (Q : VK) (zs : List V) : kExt2 l xs H Q zs = (xs.length + zs.length ≤ sizeLine ∧ Q .non (upd H l (.lst (xs ++ zs)))) := rfl
def kExt1 (l b : Addr) (H : Hp) (Q : VK) : List V → Prop := fun xs => optK (lstAt H b) (kExt2 l xs H Q)
theorem m_kExt1 (l b : Addr) (H : Hp) (Q : VK) (xs : List V) : kExt1 l b H Q xs = optK (lstAt H b) (kExt2 l xs H Q) := rfl
theorem m_rExtend (l b : Addr) (H : Hp) (Q : VK) : rExtend (.ref l) [.ref b] H Q = optK (lstAt H l) (kExt1 l b H Q) := by
  refine propext ⟨fun h => ?_, fun h => ?_⟩
  · obtain ⟨l', b', xs, zs, e1, e2, h1, h2, h3, q⟩ := h
    cases e1
    cases e2
    unfold lstAt
    rw [h1]
    show optK (lstAt H b) _
    unfold lstAt
    rw [h2]
    exact ⟨h3, q⟩
  · obtain ⟨xs, e, h⟩ := optK_ex h
    obtain ⟨zs, e2, h3, q⟩ := optK_ex h
    exact ⟨l, b, xs, zs, rfl, rfl, lst_of e, lst_of e2, h3, q⟩
section
variable {X : Cx} {a b c d : Expr} {ta tb tc td : TE} {pos : Pos}
end
section
variable {k : Nat} {g : TG} {tt : TT} {te : TE} {σ : St} {Q : VK} {H : Hp} {K : PySem.W.Frag}
end
end L2
set_option Elab.async false
set_option linter.all false
set_option maxRecDepth 100000
set_option maxHeartbeats 4000000
namespace L2
open PySem PySem.Spec PyProof.Rows
section
variable {X : Cx}
end
section
variable {g : TG} {σ : St} {Q : VK} {H : Hp} {K : PySem.W.Frag}
end
section
variable {X : Cx} {CX : CXT} {k : Nat} {f C : Addr} {fd : FuncData} {ps : List Str} {sp : Sp} {dvs : List V} {ds : List Value} {E : St → XK} {x m : Str} {p pos apos : Pos} {e o : Expr} {es : List Expr} {ta : TE} {t : TA}
end
end L2
set_option Elab.async false
set_option linter.all false
set_option maxRecDepth 100000
set_option maxHeartbeats 1000000
namespace L2
open PySem PySem.Spec PyProof.Rows
section
variable {X : Cx} {e st : Expr} {te tst : TE} {pos p2 : Pos}
end
end L2
set_option Elab.async false
set_option linter.all false
set_option maxRecDepth 100000
set_option maxHeartbeats 1000000
namespace L2
open PySem PySem.Spec PyProof.Rows
def rngV (n : Int) : List V := (List.range n.toNat).map fun (i : Nat) => V.int (i : Int)
def kLR (Q : VK) : List V → Hp → Prop := fun vs H => match vs with
  | [.int n] => 0 ≤ n ∧ n ≤ 4096 ∧ newK (.lst (rngV n)) H Q
  | _ => False
theorem x_kLR (Q : VK) (n : Int) (H : Hp) : kLR Q [.int n] H = (0 ≤ n ∧ n ≤ 4096 ∧ newK (.lst (rngV n)) H Q) := rfl
def tLR (ta : TA) : TE := fun σ H Q => ta σ H (kLR Q)
theorem m_tLR (ta : TA) (σ : St) (H : Hp) (Q : VK) : tLR ta σ H Q = ta σ H (kLR Q) := rfl
theorem range_small {n : Int} (h0 : n ≤ 4096) (h1 : -5000 ≤ n) : Builtin.Range.small 0 n 1 = true ∧ Builtin.Range.rangeSize 0 n 1 = ((n.toNat : Nat) : Int) := by
  have e : Builtin.Range.rangeSize 0 n 1 = ((n.toNat : Nat) : Int) := by
    unfold Builtin.Range.rangeSize
    rw [if_pos (by decide)]
    split
    · rw [Int.ediv_one]; omega
    · omega
  refine ⟨?_, e⟩
  unfold Builtin.Range.small
  rw [e, if_pos (by decide)]
  unfold Builtin.Range.rangeFitsLong
  simp
  omega
theorem vals_of_get : ∀ {xs : List V} {us : List Value}, us.length = xs.length → (∀ (i : Nat) (x : V) (u : Value), xs[i]? = some x → us[i]? = some u → RelV x u) → Vals xs us
  | [], [], _, _ => .nil
  | [], _ :: _, h, _ => by cases h
  | _ :: _, [], h, _ => by cases h
  | x :: xs, u :: us, h, k => .cons (k 0 x u rfl rfl) (vals_of_get (by simpa using h) fun i y w a b => k (i + 1) y w (by simpa using a) (by simpa using b))
section
variable {X : Cx}
theorem pe_listrange {a : Expr} {ta : TA} {p p2 pos pos2 : Pos} (hc : X.calm = true) (hg : Gl X "list") (hm : X.mg "list" = none) (hg2 : Gl X "range") (hm2 : X.mg "range" = none) (ha : PA X [a] ta) (hs : starEach [a] X.env = [(false, eval a X.env)] := by rfl) (hs3 : starEach [Expr.Call (.Name "range" p2) [a] [] pos2] X.env = [(false, eval (Expr.Call (.Name "range" p2) [a] [] pos2) X.env)] := by rfl) (hs4 : starEach ([] : List Expr) X.env = [] := by rfl) :
    PE X (.Call (.Name "list" p) [.Call (.Name "range" p2) [a] [] pos2] [] pos) (tLR ta) := by
  intro pins s σ H Q I h
  refine wpAny_Call_Name_kw (ld_blt I hg hm (show bootBuiltins "list" = some (.type "list") by decide +kernel) ?_)
  refine PyProof.Rows.callWith_type1 ?_ (by rw [hs3, hs4]) (by rw [hs4]; rfl)
  rw [hs3]
  show wpAny _ _ (spliced ((false, eval _ X.env) :: [])) _ _ s
  refine Calls.spliced_cons ?_
  refine Call_ (ld_blt I hg2 hm2 boot_range (PyProof.Rows.callWith_type1 (thn (ha pos2 pins s σ H _ I h) fun us s1 ⟨vs, H1, I1, r1, q1⟩ => ?_) hs rfl))
  unfold kLR at q1
  split at q1
  · rename_i n
    obtain ⟨hn0, hn, q⟩ := q1
    cases r1 with
    | cons r rr =>
      cases rr
      obtain ⟨t, rfl⟩ := r
      refine call_range_1 ?_
      refine Calls.spliced_nil ?_
      obtain ⟨k1, k2⟩ := range_small hn (by omega)
      have I2 : Inv X pins σ H1 { s1 with heap := s1.heap.push { cls := .type "range", data := .fields #[.int 0 s1.toks, .int n t, .int 1 (s1.toks + 1)] }, toks := s1.toks + 1 + 1 } := I1.kept (t' := s1.toks + 1 + 1) fun b ob e => Heap.get?_push_of_some _ e
      refine call_list_range (s := { s1 with heap := s1.heap.push { cls := .type "range", data := .fields #[.int 0 s1.toks, .int n t, .int 1 (s1.toks + 1)] }, toks := s1.toks + 1 + 1 }) (n := n.toNat) (I1.ok.hd hc) (Heap.get?_push_size _ rfl) k1 k2 (by omega) fun h' tk acc c kp hget hit => ?_
      have fr := I2.hok.fresh (Nat.le_refl _)
      have hv : Vals (rngV n) acc.toList := by
        refine vals_of_get (by unfold rngV; rw [List.length_map, List.length_range, Array.length_toList, hit.1]) fun i x u hx hu => ?_
        unfold rngV at hx
        rw [List.getElem?_map] at hx
        obtain ⟨j, hj, rfl⟩ := Option.map_eq_some_iff.mp hx
        obtain ⟨hj1, hj2⟩ := List.getElem?_eq_some_iff.mp hj
        have ej : i = j := by simpa using hj2
        subst ej
        obtain ⟨tk', e⟩ := hit.2 i u (by simpa using hu)
        exact ⟨tk', by rw [e]; congr 1; omega⟩
      refine ⟨.ref (s1.heap.push { cls := .type "range", data := .fields #[.int 0 s1.toks, .int n t, .int 1 (s1.toks + 1)] }).objs.size, _, I2.laid (t' := tk) (o := .lst (rngV n)) kp (Nat.le_refl _) ⟨?_, acc.toList, c, hv, ?_⟩, rfl, q _ _ fr (Ext.new fr) upd_same⟩
      · unfold rngV; rw [List.length_map, List.length_range]; exact len5000 (by omega)
      · exact hget
  · exact q1.elim
end
end L2
set_option Elab.async false
set_option linter.all false
set_option maxRecDepth 100000
set_option maxHeartbeats 1000000
namespace L2
open PySem PySem.Spec PyProof.Rows
section
variable {X : Cx}
end
end L2
set_option Elab.async false
set_option linter.all false
set_option maxRecDepth 100000
set_option maxHeartbeats 4000000
namespace L2
open PySem PySem.Spec PyProof.Rows
section
variable {X : Cx}
end
end L2
set_option Elab.async false
set_option linter.all false
set_option maxRecDepth 100000
set_option maxHeartbeats 4000000
namespace L2
open PySem PySem.Spec PyProof.Rows
def tV (i : Nat) : TE := fun σ H Q => match σ[i]? with
  | some (some v) => Q v H
  | _ => False
theorem tV_eq (i : Nat) : tVar i = tV i := by
  funext σ H Q
  refine propext ⟨fun ⟨v, e, q⟩ => ?_, fun h => ?_⟩
  · unfold tV; rw [e]; exact q
  · unfold tV at h
    split at h
    · rename_i v e; exact ⟨v, e, h⟩
    · exact h.elim
theorem m_tV_0 {v : V} {σ : St} {H : Hp} {Q : VK} : tV 0 (some v :: σ) H Q = Q v H := rfl
theorem m_tV_1 {a0 : Option V} {v : V} {σ : St} {H : Hp} {Q : VK} : tV 1 (a0 :: some v :: σ) H Q = Q v H := rfl
theorem m_tV_2 {a0 a1 : Option V} {v : V} {σ : St} {H : Hp} {Q : VK} : tV 2 (a0 :: a1 :: some v :: σ) H Q = Q v H := rfl
theorem m_tV_3 {a0 a1 a2 : Option V} {v : V} {σ : St} {H : Hp} {Q : VK} : tV 3 (a0 :: a1 :: a2 :: some v :: σ) H Q = Q v H := rfl
theorem m_tV_4 {a0 a1 a2 a3 : Option V} {v : V} {σ : St} {H : Hp} {Q : VK} : tV 4 (a0 :: a1 :: a2 :: a3 :: some v :: σ) H Q = Q v H := rfl
theorem m_tV_5 {a0 a1 a2 a3 a4 : Option V} {v : V} {σ : St} {H : Hp} {Q : VK} : tV 5 (a0 :: a1 :: a2 :: a3 :: a4 :: some v :: σ) H Q = Q v H := rfl
theorem m_tV_6 {a0 a1 a2 a3 a4 a5 : Option V} {v : V} {σ : St} {H : Hp} {Q : VK} : tV 6 (a0 :: a1 :: a2 :: a3 :: a4 :: a5 :: some v :: σ) H Q = Q v H := rfl
theorem m_tV_7 {a0 a1 a2 a3 a4 a5 a6 : Option V} {v : V} {σ : St} {H : Hp} {Q : VK} : tV 7 (a0 :: a1 :: a2 :: a3 :: a4 :: a5 :: a6 :: some v :: σ) H Q = Q v H := rfl
theorem m_tV_8 {a0 a1 a2 a3 a4 a5 a6 a7 : Option V} {v : V} {σ : St} {H : Hp} {Q : VK} : tV 8 (a0 :: a1 :: a2 :: a3 :: a4 :: a5 :: a6 :: a7 :: some v :: σ) H Q = Q v H := rfl
def nI0 (g : Int → Int → V) : R2 := fun x y H Q => match x, y with
  | .int i, .int j => Q (g i j) H
  | _, _ => False
theorem m_nI0 (g : Int → Int → V) (i j : Int) (H : Hp) (Q : VK) : nI0 g (.int i) (.int j) H Q = Q (g i j) H := rfl
theorem nI0_eq (g : Int → Int → V) : rI0 g = nI0 g := by
  funext x y H Q
  refine propext ⟨fun ⟨i, j, e, e', q⟩ => by subst e e'; exact q, fun h => ?_⟩
  unfold nI0 at h
  split at h
  · exact ⟨_, _, rfl, rfl, h⟩
  · exact h.elim
def nI (C : Int → Int → Prop) (g : Int → Int → V) : R2 := fun x y H Q => match x, y with
  | .int i, .int j => C i j ∧ Q (g i j) H
  | _, _ => False
theorem m_nI (C : Int → Int → Prop) (g : Int → Int → V) (i j : Int) (H : Hp) (Q : VK) : nI C g (.int i) (.int j) H Q = (C i j ∧ Q (g i j) H) := rfl
theorem nI_eq (C : Int → Int → Prop) (g : Int → Int → V) : rI C g = nI C g := by
  funext x y H Q
  refine propext ⟨fun ⟨i, j, e, e', q⟩ => by subst e e'; exact q, fun h => ?_⟩
  unfold nI at h
  split at h
  · exact ⟨_, _, rfl, rfl, h⟩
  · exact h.elim
def nU (g : Int → V) : V → Hp → VK → Prop := fun x H Q => match x with
  | .int i => Q (g i) H
  | _ => False
theorem m_nU (g : Int → V) (i : Int) (H : Hp) (Q : VK) : nU g (.int i) H Q = Q (g i) H := rfl
theorem nU_eq (g : Int → V) : rU g = nU g := by
  funext x H Q
  refine propext ⟨fun ⟨i, e, q⟩ => by subst e; exact q, fun h => ?_⟩
  unfold nU at h
  split at h
  · exact ⟨_, rfl, h⟩
  · exact h.elim
def kTestN (Q : Bool → Hp → Prop) : VK := fun x H => match x with
  | .bl k => Q k H
  | _ => False
theorem m_kTestN (Q : Bool → Hp → Prop) (k : Bool) (H : Hp) : kTestN Q (.bl k) H = Q k H := rfl
theorem kTest_eq (Q : Bool → Hp → Prop) : kTest Q = kTestN Q := by
  funext x H
  refine propext ⟨fun ⟨k, e, q⟩ => by subst e; exact q, fun h => ?_⟩
  unfold kTestN at h
  split at h
  · exact ⟨_, rfl, h⟩
  · exact h.elim
def nTest (t : TE) : TT := fun σ H Q => t σ H (kTestN Q)
theorem m_nTest (t : TE) (σ : St) (H : Hp) (Q : Bool → Hp → Prop) : nTest t σ H Q = t σ H (kTestN Q) := rfl
theorem nTest_eq (t : TE) : tTest t = nTest t := by
  funext σ H Q
  show t σ H (kTest Q) = t σ H (kTestN Q)
  rw [kTest_eq]
theorem nTest_eqB (t : TE) : tB t = nTest t := nTest_eq t
def kAndN (tb : TE) (σ : St) (Q : VK) : VK := fun x H => match x with
  | .bl c => if c = true then tb σ H Q else Q (.bl false) H
  | _ => False
theorem m_kAndN (tb : TE) (σ : St) (Q : VK) (c : Bool) (H : Hp) : kAndN tb σ Q (.bl c) H = (if c = true then tb σ H Q else Q (.bl false) H) := rfl
def nAndV (ta tb : TE) : TE := fun σ H Q => ta σ H (kAndN tb σ Q)
theorem m_nAndV (ta tb : TE) (σ : St) (H : Hp) (Q : VK) : nAndV ta tb σ H Q = ta σ H (kAndN tb σ Q) := rfl
theorem nAndV_eq (ta tb : TE) : tAndV ta tb = nAndV ta tb := by
  funext σ H Q
  show ta σ H (kAndV tb σ Q) = ta σ H (kAndN tb σ Q)
  congr 1
  funext x H
  refine propext ⟨fun ⟨k, e, q⟩ => by subst e; exact q, fun h => ?_⟩
  unfold kAndN at h
  split at h
  · exact ⟨_, rfl, h⟩
  · exact h.elim
def kOrN (tb : TE) (σ : St) (Q : VK) : VK := fun x H => match x with
  | .bl c => if c = true then Q (.bl true) H else tb σ H Q
  | _ => False
theorem m_kOrN (tb : TE) (σ : St) (Q : VK) (c : Bool) (H : Hp) : kOrN tb σ Q (.bl c) H = (if c = true then Q (.bl true) H else tb σ H Q) := rfl
def nOrV (ta tb : TE) : TE := fun σ H Q => ta σ H (kOrN tb σ Q)
theorem m_nOrV (ta tb : TE) (σ : St) (H : Hp) (Q : VK) : nOrV ta tb σ H Q = ta σ H (kOrN tb σ Q) := rfl
theorem nOrV_eq (ta tb : TE) : tOrV ta tb = nOrV ta tb := by
  funext σ H Q
  show ta σ H (kOrV tb σ Q) = ta σ H (kOrN tb σ Q)
  congr 1
  funext x H
  refine propext ⟨fun ⟨k, e, q⟩ => by subst e; exact q, fun h => ?_⟩
  unfold kOrN at h
  split at h
  · exact ⟨_, rfl, h⟩
  · exact h.elim
def kNotN (Q : VK) : VK := fun x H => match x with
  | .bl c => Q (.bl (!c)) H
  | _ => False
theorem m_kNotN (Q : VK) (c : Bool) (H : Hp) : kNotN Q (.bl c) H = Q (.bl (!c)) H := rfl
def nNotV (ta : TE) : TE := fun σ H Q => ta σ H (kNotN Q)
theorem m_nNotV (ta : TE) (σ : St) (H : Hp) (Q : VK) : nNotV ta σ H Q = ta σ H (kNotN Q) := rfl
theorem nNotV_eq (ta : TE) : tNotV ta = nNotV ta := by
  funext σ H Q
  show ta σ H (kNotV Q) = ta σ H (kNotN Q)
  congr 1
  funext x H
  refine propext ⟨fun ⟨k, e, q⟩ => by subst e; exact q, fun h => ?_⟩
  unfold kNotN at h
  split at h
  · exact ⟨_, rfl, h⟩
  · exact h.elim
def kChN2 (r' : R2) (tc : TE) (σ : St) (y : V) (Q : VK) : VK := fun z H => match z with
  | .bl k => if k = true then tc σ H (kCh3 r' y Q) else Q (.bl false) H
  | _ => False
theorem m_kChN2 (r' : R2) (tc : TE) (σ : St) (y : V) (Q : VK) (k : Bool) (H : Hp) : kChN2 r' tc σ y Q (.bl k) H = (if k = true then tc σ H (kCh3 r' y Q) else Q (.bl false) H) := rfl
theorem kCh2_eq (r' : R2) (tc : TE) (σ : St) (y : V) (Q : VK) : kCh2 r' tc σ y Q = kChN2 r' tc σ y Q := by
  funext z H
  refine propext ⟨fun ⟨k, e, q⟩ => by subst e; exact q, fun h => ?_⟩
  unfold kChN2 at h
  split at h
  · exact ⟨_, rfl, h⟩
  · exact h.elim
def kChN1 (r r' : R2) (tc : TE) (σ : St) (x : V) (Q : VK) : VK := fun y H => r x y H (kChN2 r' tc σ y Q)
theorem m_kChN1 (r r' : R2) (tc : TE) (σ : St) (x y : V) (Q : VK) (H : Hp) : kChN1 r r' tc σ x Q y H = r x y H (kChN2 r' tc σ y Q) := rfl
def kChN0 (r r' : R2) (tb tc : TE) (σ : St) (Q : VK) : VK := fun x H => tb σ H (kChN1 r r' tc σ x Q)
theorem m_kChN0 (r r' : R2) (tb tc : TE) (σ : St) (Q : VK) (x : V) (H : Hp) : kChN0 r r' tb tc σ Q x H = tb σ H (kChN1 r r' tc σ x Q) := rfl
def nChain (r r' : R2) (ta tb tc : TE) : TE := fun σ H Q => ta σ H (kChN0 r r' tb tc σ Q)
theorem m_nChain (r r' : R2) (ta tb tc : TE) (σ : St) (H : Hp) (Q : VK) : nChain r r' ta tb tc σ H Q = ta σ H (kChN0 r r' tb tc σ Q) := rfl
theorem nChain_eq (r r' : R2) (ta tb tc : TE) : tChain r r' ta tb tc = nChain r r' ta tb tc := by
  funext σ H Q
  show ta σ H (kCh0 r r' tb tc σ Q) = ta σ H (kChN0 r r' tb tc σ Q)
  congr 1
  funext x H1
  show tb σ H1 (kCh1 r r' tc σ x Q) = tb σ H1 (kChN1 r r' tc σ x Q)
  congr 1
  funext y H2
  show r x y H2 (kCh2 r' tc σ y Q) = r x y H2 (kChN2 r' tc σ y Q)
  rw [kCh2_eq]
def gNilN : TGs := fun vs σ H Q => match vs with
  | [] => Q σ H
  | _ => False
theorem m_gNilN (σ : St) (H : Hp) (Q : St → Hp → Prop) : gNilN [] σ H Q = Q σ H := rfl
theorem gNil_eq : gNil = gNilN := by
  funext vs σ H Q
  refine propext ⟨fun ⟨e, q⟩ => by subst e; exact q, fun h => ?_⟩
  unfold gNilN at h
  split at h
  · exact ⟨rfl, h⟩
  · exact h.elim
def gConsN (t : TG) (u : TGs) : TGs := fun vs σ H Q => match vs with
  | v :: r => t v σ H (kGs u r Q)
  | _ => False
theorem m_gConsN (t : TG) (u : TGs) (v : V) (r : List V) (σ : St) (H : Hp) (Q : St → Hp → Prop) : gConsN t u (v :: r) σ H Q = t v σ H (kGs u r Q) := rfl
theorem gCons_eq (t : TG) (u : TGs) : gCons t u = gConsN t u := by
  funext vs σ H Q
  refine propext ⟨fun ⟨v, r, e, q⟩ => by subst e; exact q, fun h => ?_⟩
  unfold gConsN at h
  split at h
  · exact ⟨_, _, rfl, h⟩
  · exact h.elim
theorem spx1 {α0 : Type} {f : α0 → List V} {B : α0 → Prop} (inj : ∀ a a', f a = f a' → a = a') (a : α0) : (∃ a', f a = f a' ∧ B a') = B a := propext ⟨fun ⟨a', e, q⟩ => by obtain rfl := inj _ _ e; exact q, fun q => ⟨a, rfl, q⟩⟩
theorem spl1 {α0 : Type} {f : α0 → List V} {B : α0 → Prop} {vs : List V} {n : Nat} (h : ∃ a, vs = f a ∧ B a) (l : ∀ a, (f a).length = n) : vs.length = n := by
  obtain ⟨_, rfl, _⟩ := h
  exact l _
theorem spx2 {α0 α1 : Type} {f : α0 → α1 → List V} {B : α0 → α1 → Prop} (inj : ∀ a b a' b', f a b = f a' b' → a = a' ∧ b = b') (a : α0) (b : α1) : (∃ a' b', f a b = f a' b' ∧ B a' b') = B a b := propext ⟨fun ⟨a', b', e, q⟩ => by obtain ⟨rfl, rfl⟩ := inj _ _ _ _ e; exact q, fun q => ⟨a, b, rfl, q⟩⟩
theorem spl2 {α0 α1 : Type} {f : α0 → α1 → List V} {B : α0 → α1 → Prop} {vs : List V} {n : Nat} (h : ∃ a b, vs = f a b ∧ B a b) (l : ∀ a b, (f a b).length = n) : vs.length = n := by
  obtain ⟨_, _, rfl, _⟩ := h
  exact l _ _
theorem spx3 {α0 α1 α2 : Type} {f : α0 → α1 → α2 → List V} {B : α0 → α1 → α2 → Prop} (inj : ∀ a b c a' b' c', f a b c = f a' b' c' → a = a' ∧ b = b' ∧ c = c') (a : α0) (b : α1) (c : α2) : (∃ a' b' c', f a b c = f a' b' c' ∧ B a' b' c') = B a b c := propext ⟨fun ⟨a', b', c', e, q⟩ => by obtain ⟨rfl, rfl, rfl⟩ := inj _ _ _ _ _ _ e; exact q, fun q => ⟨a, b, c, rfl, q⟩⟩
theorem spl3 {α0 α1 α2 : Type} {f : α0 → α1 → α2 → List V} {B : α0 → α1 → α2 → Prop} {vs : List V} {n : Nat} (h : ∃ a b c, vs = f a b c ∧ B a b c) (l : ∀ a b c, (f a b c).length = n) : vs.length = n := by
  obtain ⟨_, _, _, rfl, _⟩ := h
  exact l _ _ _
theorem len0 {P : List Value → Prop} (h : P []) : ∀ us : List Value, us.length = 0 → P us := fun us e => by
  cases us with
  | nil => exact h
  | cons a r => cases e
theorem len1 {P : List Value → Prop} (h : ∀ a, P [a]) : ∀ us : List Value, us.length = 1 → P us := fun us e => by
  cases us with
  | nil => cases e
  | cons x r => exact len0 (P := fun r => P (x :: r)) (h x) r (Nat.succ.inj e)
theorem len2 {P : List Value → Prop} (h : ∀ a b, P [a, b]) : ∀ us : List Value, us.length = 2 → P us := fun us e => by
  cases us with
  | nil => cases e
  | cons x r => exact len1 (P := fun r => P (x :: r)) (h x) r (Nat.succ.inj e)
theorem len3 {P : List Value → Prop} (h : ∀ a b c, P [a, b, c]) : ∀ us : List Value, us.length = 3 → P us := fun us e => by
  cases us with
  | nil => cases e
  | cons x r => exact len2 (P := fun r => P (x :: r)) (h x) r (Nat.succ.inj e)
section
variable {X : Cx}
theorem pvN (i : Nat) {x : Str} {pos : Pos} (hN : X.N[i]? = some x := by rfl) (hv : Vis X.env.scope x := by first | exact Or.inl rfl | exact Or.inr (Or.inl rfl) | exact Or.inr (Or.inr rfl)) (hd : (x == ("__debug__" : Str)) = false := by decide)
    (hcd : (x == ("__classdict__" : Str)) = false := by decide) : PE X (.Name x pos) (tV i) := by rw [← tV_eq]; exact pv i hN hv hd hcd
theorem on_add : OpR X (binaryOp .Add) (nI0 fun i j => .int (i + j)) := by rw [← nI0_eq]; exact op_add
theorem on_sub : OpR X (binaryOp .Sub) (nI0 fun i j => .int (i - j)) := by rw [← nI0_eq]; exact op_sub
theorem on_lt : OpR X (compareOp .Lt) (nI0 fun i j => .bl (decide (i < j))) := by rw [← nI0_eq]; exact op_lt
theorem on_le : OpR X (compareOp .LtE) (nI0 fun i j => .bl (decide (i ≤ j))) := by rw [← nI0_eq]; exact op_le
theorem on_gt : OpR X (compareOp .Gt) (nI0 fun i j => .bl (decide (j < i))) := by rw [← nI0_eq]; exact op_gt
theorem on_mul : OpR X (binaryOp .Mult) (nI CMul fun i j => .int (i * j)) := by rw [← nI_eq]; exact op_mul
theorem on_mulB : OpR X (binaryOp .Mult) (nI CMulB fun i j => .int (i * j)) := by rw [← nI_eq]; exact op_mulB
theorem on_fdiv : OpR X (binaryOp .FloorDiv) (nI CDiv fun i j => .int (i / j)) := by rw [← nI_eq]; exact op_fdiv
theorem on_mod : OpR X (binaryOp .Mod) (nI (fun _ j => 0 < j) fun i j => .int (i % j)) := by rw [← nI_eq]; exact op_mod
theorem on_pow : OpR X (binaryOp .Pow) (nI CPow fun i j => .int (i ^ j.toNat)) := by rw [← nI_eq]; exact op_pow
theorem un_negN : UnR X (unaryOp .USub) (nU fun i => .int (-i)) := by rw [← nU_eq]; exact un_neg
variable {a b c d e : Expr} {ta tb tc td t : TE} {pos : Pos}
theorem pt_cmpRN {op : CmpOp} {r : R2} (ho : OpR X (compareOp op) r) (ha : PE X a ta) (hb : PE X b tb) (hm : behindInMarks op b = false) : PT X (.Compare a [op] [b] pos) (nTest (tOp r ta tb)) := by rw [← nTest_eq]; exact pt_cmpR ho ha hb hm
theorem pt_valN (h : PE X e t) (he : ∀ whole, isTrue e X.env whole = (do let v ← whole; standAt e.pos; holding [v] (truthy v)) := by intro _; rfl) : PT X e (nTest t) := by rw [← nTest_eqB]; exact pt_val h he
theorem pe_chainN {op op' : CmpOp} {r r' : R2} (ho : OpR X (compareOp op) r) (ho' : OpR X (compareOp op') r') (ha : PE X a ta) (hb : PE X b tb) (hc : PE X c tc)
    (hm : lastMarks [op, op'] [b, c] = false := by with_unfolding_all rfl) : PE X (.Compare a [op, op'] [b, c] pos) (nChain r r' ta tb tc) := by rw [← nChain_eq]; exact pe_chain ho ho' ha hb hc hm
variable {rest : List Expr}
theorem pe_andN (ha : PE X a ta) (hb : PE X (.BoolOp .And (b :: rest) pos) tb) : PE X (.BoolOp .And (a :: b :: rest) pos) (nAndV ta tb) := by rw [← nAndV_eq]; exact pe_and ha hb
theorem pe_orN (ha : PE X a ta) (hb : PE X (.BoolOp .Or (b :: rest) pos) tb) : PE X (.BoolOp .Or (a :: b :: rest) pos) (nOrV ta tb) := by rw [← nOrV_eq]; exact pe_or ha hb
theorem pe_notN (ha : PE X a ta) : PE X (.UnaryOp .Not a pos) (nNotV ta) := by rw [← nNotV_eq]; exact pe_not ha
theorem pgs_nilN : PGs X [] gNilN := by rw [← gNil_eq]; exact pgs_nil
theorem pgs_consN {e : Expr} {es : List Expr} {t : TG} {u : TGs} (h1 : PG X e t) (h2 : PGs X es u)
    (hs : (assignEach (e :: es) X.env).map (·.2) = assign e X.env :: (assignEach es X.env).map (·.2) := by rfl) : PGs X (e :: es) (gConsN t u) := by rw [← gCons_eq]; exact pgs_cons h1 h2 hs
end
theorem if_gen {c : TT} {t u : TS} {nx : St → Hp → Prop} {rt : VK} {bk ct : St → Hp → Prop} {σ : St} {H : Hp} (R : St → Hp → Prop) (h : ∀ nx' : St → Hp → Prop, (∀ σ' H', R σ' H' → nx' σ' H') → tIfS c t u ⟨nx', rt, bk, ct⟩ σ H) (k : ∀ σ' H', R σ' H' → nx σ' H') : tIfS c t u ⟨nx, rt, bk, ct⟩ σ H := h nx k
theorem mo_tV {i : Nat} : ME (tV i) := by rw [← tV_eq]; exact mo_var
theorem mo_nTest {t : TE} (h : ME t) : MT (nTest t) := by rw [← nTest_eq]; exact mo_test h
end L2
set_option Elab.async false
set_option linter.all false
set_option maxRecDepth 100000
set_option maxHeartbeats 4000000
namespace L2
open PySem PySem.Spec PyProof.Rows
def kRep (k : Int) (H : Hp) (Q : VK) : List V → Prop := fun xs => 0 ≤ k ∧ k ≤ 4096 ∧ xs.length * k.toNat ≤ sizeLine ∧ newK (.lst (List.replicate k.toNat xs).flatten) H Q
theorem m_kRep (k : Int) (H : Hp) (Q : VK) (xs : List V) : kRep k H Q xs = (0 ≤ k ∧ k ≤ 4096 ∧ xs.length * k.toNat ≤ sizeLine ∧ newK (.lst (List.replicate k.toNat xs).flatten) H Q) := rfl
def nRep : R2 := fun x y H Q => match x, y with
  | .ref l, .int k => optK (lstAt H l) (kRep k H Q)
  | _, _ => False
theorem m_nRep (l : Addr) (k : Int) (H : Hp) (Q : VK) : nRep (.ref l) (.int k) H Q = optK (lstAt H l) (kRep k H Q) := rfl
theorem op_nRep {X : Cx} : OpR X (binaryOp .Mult) nRep := op_rep.mono fun x y H Q h => by
  unfold nRep at h
  split at h
  · rename_i l k
    obtain ⟨xs, e, h0, h1, h2, q⟩ := optK_ex h
    exact ⟨l, k, xs, rfl, rfl, lst_of e, by omega, by omega, h2, q.to⟩
  · exact h.elim
def kPopA2 (l : Addr) (i : Int) (xs : List V) (H : Hp) (Q : VK) : V → Prop := fun y => Q y (upd H l (.lst (xs.eraseIdx i.toNat)))
theorem m_kPopA2 (l : Addr) (i : Int) (xs : List V) (H : Hp) (Q : VK) (y : V) : kPopA2 l i xs H Q y = Q y (upd H l (.lst (xs.eraseIdx i.toNat))) := rfl
def kPopA (l : Addr) (i : Int) (H : Hp) (Q : VK) : List V → Prop := fun xs => 0 ≤ i ∧ i < xs.length ∧ xs.length ≤ 4096 ∧ optK (xs[i.toNat]?) (kPopA2 l i xs H Q)
theorem m_kPopA (l : Addr) (i : Int) (H : Hp) (Q : VK) (xs : List V) : kPopA l i H Q xs = (0 ≤ i ∧ i < xs.length ∧ xs.length ≤ 4096 ∧ optK (xs[i.toNat]?) (kPopA2 l i xs H Q)) := rfl
def nPopAt : V → List V → Hp → VK → Prop := fun x vs H Q => match x, vs with
  | .ref l, [.int i] => optK (lstAt H l) (kPopA l i H Q)
  | _, _ => False
theorem m_nPopAt (l : Addr) (i : Int) (H : Hp) (Q : VK) : nPopAt (.ref l) [.int i] H Q = optK (lstAt H l) (kPopA l i H Q) := rfl
theorem mt_nPopAt {X : Cx} : MtM X "list.pop" nPopAt := fun pins s σ H x vs v us Q I rx rv h => mt_popAt pins s σ H x vs v us Q I rx rv (by
  unfold nPopAt at h
  split at h
  · rename_i l i
    obtain ⟨xs, e, h0, h1, h2, q⟩ := optK_ex h
    obtain ⟨y, hy, q⟩ := optK_ex q
    exact ⟨l, xs, i, i.toNat, y, rfl, rfl, lst_of e, by omega, by omega, seqIndex_of h0 h1, hy, q⟩
  · exact h.elim)
theorem mo_qLst {t : TA} (h : MA t) : ME (qLst t) := fun σ H Q Q' m q => h σ H _ _ (fun xs H1 ⟨l, n⟩ => ⟨l, fun p H' a b c => m _ _ (n p H' a b c)⟩) q
end L2
set_option Elab.async false
set_option linter.all false
set_option maxRecDepth 100000
set_option maxHeartbeats 4000000
namespace L2
open PySem PySem.Spec PyProof.Rows
def kInI (neg : Bool) (x : V) (H : Hp) (Q : VK) : List V → Prop := fun xs => flatV x = true ∧ xs.all flatV = true ∧ Q (.bl (if neg = true then !inV x xs else inV x xs)) H
theorem m_kInI (neg : Bool) (x : V) (H : Hp) (Q : VK) (xs : List V) : kInI neg x H Q xs = (flatV x = true ∧ xs.all flatV = true ∧ Q (.bl (if neg = true then !inV x xs else inV x xs)) H) := rfl
def nIn (neg : Bool) : R2 := fun x y H Q => match y with
  | .ref p => optK (itemsAt H p) (kInI neg x H Q)
  | _ => False
theorem m_nIn (neg : Bool) (x : V) (p : Addr) (H : Hp) (Q : VK) : nIn neg x (.ref p) H Q = optK (itemsAt H p) (kInI neg x H Q) := rfl
theorem rIn_of {K : PySem.W.Frag} {neg : Bool} {x y : V} {H : Hp} {Q : VK} (h : nIn neg x y H Q) : rIn K neg x y H Q := by
  unfold nIn at h
  split at h
  · rename_i p
    obtain ⟨xs, e, h1, h2, q⟩ := optK_ex h
    exact ⟨p, xs, rfl, items_seq e, h1, h2, q⟩
  · exact h.elim
theorem op_nIn {X : Cx} : OpR X (compareOp .In) (nIn false) := op_in_seq.mono fun x y H Q h => rIn_of h
def kNST (lo hi : Option Int) (H : Hp) (Q : VK) : List V → Prop := fun xs => ¬ (HT.sIx xs.length 0 lo = 0 ∧ HT.sIx xs.length xs.length hi = xs.length) ∧ newK (.tup (cutV xs lo hi)) H Q
def nSlT : V → Option Int → Option Int → Hp → VK → Prop := fun x lo hi H Q => match x with
  | .ref a => optK (tupAt H a) (kNST lo hi H Q)
  | _ => False
theorem m_nSlT (a : Addr) (lo hi : Option Int) (H : Hp) (Q : VK) : nSlT (.ref a) lo hi H Q = optK (tupAt H a) (kNST lo hi H Q) := rfl
theorem cut_some (xs : List V) (z : Int) (h : 0 ≤ z) : cutV xs (some z) none = xs.drop z.toNat := by
  unfold cutV
  obtain ⟨n, rfl⟩ := Int.eq_ofNat_of_zero_le h
  rw [HT.sIx_none, HT.sIx_nat]
  show _ = xs.drop n
  rcases Nat.le_total n xs.length with q | q
  · rw [Nat.min_eq_left q]
    exact List.take_of_length_le (by rw [List.length_drop]; omega)
  · rw [Nat.min_eq_right q, List.drop_of_length_le (Nat.le_refl _), List.drop_of_length_le q, List.take_nil]
theorem sl_nT {X : Cx} : SlR X nSlT := sl_tup.mono fun x lo hi H Q h => by
  unfold nSlT at h
  split at h
  · rename_i a
    obtain ⟨xs, e, w, q⟩ := optK_ex h
    exact ⟨a, xs, rfl, SqT.of (tup_of e), w, q.to⟩
  · exact h.elim
def setL (ns : List Int) : List Int := firstMet (fun i => ns.getD i 0) ns.length
def setN (ns : List Int) : Nat := (setL ns).length
def setM (ns : List Int) : Int → Bool := fun k => (setL ns).any fun x => x == k
def qSet : List V → Hp → VK → Prop := fun vs H Q => ∃ p ns, vs = [.ref p] ∧ H p = some (.lst (ns.map V.int)) ∧ ns.length ≤ 4000 ∧ newK (.set (setM ns) (setN ns)) H Q
theorem use_set {p : Addr} {ns : List Int} {H : Hp} {Q : VK} (e : H p = some (.lst (ns.map V.int))) (hl : ns.length ≤ 4000) (q : newK (.set (setM ns) (setN ns)) H Q) : qSet [.ref p] H Q := ⟨p, ns, rfl, e, hl, q⟩
def qLenS : List V → Hp → VK → Prop := fun vs H Q => ∃ p S n, vs = [.ref p] ∧ H p = some (.set S n) ∧ Q (.int n) H
theorem use_lenS {p : Addr} {S : Int → Bool} {n : Nat} {H : Hp} {Q : VK} (e : H p = some (.set S n)) (q : Q (.int n) H) : qLenS [.ref p] H Q := ⟨p, S, n, rfl, e, q⟩
section
variable {X : Cx}
theorem call_qSet (hc : X.calm = true) : CallR X (.type "set") qSet := by
  intro pins s σ H vs us Q I r h
  obtain ⟨p, ns, rfl, e, hl, q⟩ := h
  cases r with
  | cons r rr =>
    cases rr
    cases r
    obtain ⟨its, r', pl, hz⟩ := I.list (SqL.of e)
    have hlen := r'.length
    rw [List.length_map] at hlen
    have hI : IntsAre its ns := intsAre_of r'
    refine call_set_list (ns := ns) (I.ok.hd hc) pl.isList (by simpa using hI) (by rw [List.size_toArray]; unfold scanBound; omega) fun h' tk hset kp => ?_
    have es : its.toArray.size = ns.length := by rw [List.size_toArray, hlen]
    rw [es] at hset
    have fr := I.hok.fresh (Nat.le_refl _)
    exact ⟨.ref s.heap.objs.size, _, I.laid (t' := tk) (h' := h') (o := .set (setM ns) (setN ns)) (fun b u hb => kp b u (Heap.lt_size hb) hb) (Nat.le_refl _) hset, rfl, q _ _ fr (Ext.new fr) upd_same⟩
theorem call_qLenS : CallR X (.builtin "len") qLenS := by
  intro pins s σ H vs us Q I r h
  obtain ⟨p, S, n, rfl, e, q⟩ := h
  obtain ⟨u, rfl, rx⟩ := vals1 r
  cases rx
  have hn := line63
  obtain ⟨o, es, ep, t, h1, h2, h3, h4, h5, h6, h7, h8⟩ := I.hok _ _ e
  unfold scanBound at h6
  exact call_len_set h1 h2 h3 h7 (by omega) ⟨.int n, H, I.tok _, ⟨s.toks + 1, by rw [h8]⟩, q⟩
end
theorem step_len_le (σ : List Int) (v : Int) : (step_dedup σ v).length ≤ σ.length + 1 := by rw [step_length]; split <;> omega
theorem fold_le : ∀ (ns σ : List Int), (List.foldl step_dedup σ ns).length ≤ σ.length + ns.length
  | [], σ => Nat.le_refl _
  | v :: ns, σ => by
    have h1 := fold_le ns (step_dedup σ v)
    have h2 := step_len_le σ v
    simp only [List.foldl_cons, List.length_cons]
    omega
theorem fold_eq : ∀ (ns σ : List Int), (List.foldl step_dedup σ ns).length = σ.length + ns.length ↔ ns.Nodup ∧ ∀ x ∈ ns, x ∉ σ
  | [], σ => ⟨fun _ => ⟨List.nodup_nil, fun _ h => absurd h List.not_mem_nil⟩, fun _ => rfl⟩
  | v :: ns, σ => by
    have ih := fold_eq ns (step_dedup σ v)
    have hl := fold_le ns (step_dedup σ v)
    simp only [List.foldl_cons, List.length_cons, List.nodup_cons, List.mem_cons, forall_eq_or_imp]
    by_cases hv : v ∈ σ
    · have e : step_dedup σ v = σ := by unfold step_dedup; rw [if_pos (by rw [List.any_eq_true]; exact ⟨v, hv, by simp⟩)]
      rw [e] at hl ⊢
      exact ⟨fun h => absurd h (by omega), fun h => absurd hv h.2.1⟩
    · have e : step_dedup σ v = σ ++ [v] := by
        unfold step_dedup
        rw [if_neg]
        intro h
        rw [List.any_eq_true] at h
        obtain ⟨x, hx, he⟩ := h
        exact hv ((of_decide_eq_true (by simpa using he) : x = v) ▸ hx)
      rw [e] at ih ⊢
      rw [List.length_append, List.length_singleton] at ih
      constructor
      · intro h
        obtain ⟨a, b⟩ := ih.mp (by omega)
        exact ⟨⟨fun hm => b v hm (List.mem_append_right _ (List.mem_singleton.mpr rfl)), a⟩, hv, fun x hx hs => b x hx (List.mem_append_left _ hs)⟩
      · rintro ⟨⟨a, b⟩, _, c⟩
        have := ih.mpr ⟨b, fun x hx hs => by
          rcases List.mem_append.mp hs with h | h
          · exact c x hx h
          · exact a (List.mem_singleton.mp h ▸ hx)⟩
        omega
theorem getD_range (ns : List Int) : (List.range ns.length).map (fun i => ns.getD i 0) = ns := by
  refine List.ext_getElem (by rw [List.length_map, List.length_range]) fun i h1 h2 => ?_
  rw [List.getElem_map, List.getElem_range, List.getD_eq_getElem?_getD, List.getElem?_eq_getElem h2]
  rfl
theorem setN_eq (ns : List Int) : setN ns = ns.length ↔ ns.Nodup := by
  unfold setN setL firstMet
  rw [getD_range]
  have := fold_eq ns []
  simp only [List.length_nil, Nat.zero_add] at this
  rw [this]
  exact ⟨fun h => h.1, fun h => ⟨h, fun _ _ => List.not_mem_nil⟩⟩
end L2
namespace PH
def Sizes (ns : List Int) : Prop := ns.length ≤ 8 ∧ ∀ n ∈ ns, 1 ≤ n ∧ n ≤ 1000000000
def prodL : List Int → Int
  | [] => 1
  | n :: r => n * prodL r
def splitL : List Int → Int → List Int
  | [], _ => []
  | n :: r, x => x / prodL r % n :: splitL r x
theorem prodL_append : ∀ ns ms : List Int, prodL (ns ++ ms) = prodL ns * prodL ms
  | [], ms => by simp [prodL]
  | n :: r, ms => by simp only [List.cons_append, prodL, prodL_append r ms, Int.mul_assoc]
theorem prodL_take (ns : List Int) (i : Nat) (z : Int) (h : ns[i]? = some z) : prodL (ns.take (i + 1)) = prodL (ns.take i) * z := by
  rw [List.take_add_one, h, prodL_append]
  simp [prodL]
theorem prodL_pos : ∀ ns : List Int, (∀ n ∈ ns, 1 ≤ n ∧ n ≤ 1000000000) → 1 ≤ prodL ns ∧ prodL ns ≤ 1000000000 ^ ns.length
  | [], _ => by simp [prodL]
  | n :: r, h => by
    obtain ⟨h1, h2⟩ := prodL_pos r fun m hm => h m (List.mem_cons_of_mem _ hm)
    obtain ⟨g1, g2⟩ := h n List.mem_cons_self
    refine ⟨?_, ?_⟩
    · show 1 ≤ n * prodL r
      exact Int.le_trans (by omega) (Int.mul_le_mul g1 h1 (by decide) (by omega) : 1 * 1 ≤ n * prodL r)
    · show n * prodL r ≤ 1000000000 ^ (r.length + 1)
      rw [Int.pow_succ, Int.mul_comm]
      exact Int.mul_le_mul h2 g2 (by omega) (Int.le_trans (by omega) h2)
theorem pow9_le : ∀ {k : Nat}, k ≤ 8 → (1000000000 : Int) ^ k ≤ 1000000000 ^ 8
  | 0, _ => by decide
  | 1, _ => by decide
  | 2, _ => by decide
  | 3, _ => by decide
  | 4, _ => by decide
  | 5, _ => by decide
  | 6, _ => by decide
  | 7, _ => by decide
  | 8, _ => by decide
  | k + 9, h => by omega
theorem Sizes.prod {ns : List Int} (h : Sizes ns) : 1 ≤ prodL ns ∧ prodL ns ≤ 1000000000 ^ 8 := by
  obtain ⟨a, b⟩ := prodL_pos ns h.2
  exact ⟨a, Int.le_trans b (pow9_le h.1)⟩
theorem Sizes.take {ns : List Int} (h : Sizes ns) (i : Nat) : Sizes (ns.take i) := ⟨by have := h.1; simp; omega, fun n hn => h.2 n (List.mem_of_mem_take hn)⟩
theorem Sizes.drop {ns : List Int} (h : Sizes ns) (i : Nat) : Sizes (ns.drop i) := ⟨by have := h.1; simp; omega, fun n hn => h.2 n (List.mem_of_mem_drop hn)⟩
theorem drop_step (ns : List Int) (i : Nat) (z : Int) (hi : i < ns.length) (h : ns[ns.length - 1 - i]? = some z) : ns.drop (ns.length - (i + 1)) = z :: ns.drop (ns.length - i) := by
  have e : ns.length - (i + 1) = ns.length - 1 - i := by omega
  have e2 : ns.length - i = ns.length - 1 - i + 1 := by omega
  rw [e, e2]
  obtain ⟨hl, hz⟩ := List.getElem?_eq_some_iff.mp h
  rw [← hz]
  exact List.drop_eq_getElem_cons hl
theorem prodL_step (ns : List Int) (i : Nat) (z : Int) (hi : i < ns.length) (h : ns[ns.length - 1 - i]? = some z) : prodL (ns.drop (ns.length - (i + 1))) = prodL (ns.drop (ns.length - i)) * z := by
  rw [drop_step ns i z hi h]; exact Int.mul_comm _ _
theorem splitL_step (ns : List Int) (x : Int) (i : Nat) (z : Int) (hi : i < ns.length) (h : ns[ns.length - 1 - i]? = some z) : (splitL (ns.drop (ns.length - (i + 1))) x).reverse = (splitL (ns.drop (ns.length - i)) x).reverse ++ [x / prodL (ns.drop (ns.length - i)) % z] := by
  rw [drop_step ns i z hi h]; simp [splitL]
theorem left_step (ns : List Int) (x : Int) (i : Nat) (z : Int) (hi : i < ns.length) (h : ns[ns.length - 1 - i]? = some z) (hz : 0 ≤ prodL (ns.drop (ns.length - i))) : x / prodL (ns.drop (ns.length - (i + 1))) = x / prodL (ns.drop (ns.length - i)) / z := by
  rw [prodL_step ns i z hi h]
  exact (Int.ediv_ediv_of_nonneg hz).symm
theorem splitL_len : ∀ (ns : List Int) (x : Int), (splitL ns x).length = ns.length
  | [], _ => rfl
  | _ :: r, x => by simp [splitL, splitL_len r x]
end PH
namespace PH
open PySem L2
def vi : V → Int
  | .int i => i
  | _ => 0
def belowF (x : V) (b : Int) : Bool := match x with
  | .int i => decide (0 ≤ i) && decide (i < b)
  | _ => false
def thingOk (H : Hp) (x : V) : Prop := (isW H x).isSome = true ∧ ∀ q xs, x = .ref q → H q = some (.tup xs) → ∀ y ∈ xs, (isW H y).isSome = true
theorem isW_ext {H H' : Hp} (e : Ext H H') {x : V} {b : Bool} (h : isW H x = some b) : isW H' x = some b := by
  cases x with
  | ref p =>
    obtain ⟨_, o, ho, _⟩ := isW_obj h
    rw [isW_ref', ho] at h
    rw [isW_ref', e.at ho]; exact h
  | _ => exact h
end PH
namespace PH
end PH
namespace PH
open PySem L2
theorem filt {α : Type} (l : List α) : (l.filter fun _ => true) = l := List.filter_eq_self.mpr fun _ _ => rfl
end PH
namespace PH
open PySem L2
def rowsL (ns : List Int) : List (List Int) := (List.range (prodL ns).toNat).map fun i => splitL ns ((i : Nat) : Int)
theorem splitL_snoc : ∀ (p : List Int) (n x : Int), 0 < n → splitL (p ++ [n]) x = splitL p (x / n) ++ [x % n]
  | [], n, x, hn => by simp [splitL, prodL]
  | m :: p, n, x, hn => by
    have ih := splitL_snoc p n x hn
    show x / prodL (p ++ [n]) % m :: splitL (p ++ [n]) x = x / n / prodL p % m :: (splitL p (x / n) ++ [x % n])
    rw [ih, prodL_append, show prodL [n] = n by simp [prodL], Int.mul_comm, Int.ediv_ediv_of_nonneg (by omega)]
theorem range_mul (b : Nat) : ∀ a : Nat, List.range (a * b) = (List.range a).flatMap fun j => (List.range b).map fun k => j * b + k
  | 0 => by simp
  | a + 1 => by
    rw [Nat.succ_mul, List.range_add, range_mul b a, List.range_succ, List.flatMap_append]
    simp
theorem rowsL_snoc (p : List Int) (n : Int) (hp : 0 ≤ prodL p) (hn : 0 < n) : rowsL (p ++ [n]) = (rowsL p).flatMap fun row => (List.range n.toNat).map fun k => row ++ [((k : Nat) : Int)] := by
  unfold rowsL
  have e : (prodL (p ++ [n])).toNat = (prodL p).toNat * n.toNat := by
    rw [prodL_append, show prodL [n] = n by simp [prodL]]
    obtain ⟨a, ha⟩ := Int.eq_ofNat_of_zero_le hp
    obtain ⟨b, hb⟩ := Int.eq_ofNat_of_zero_le (show 0 ≤ n by omega)
    rw [ha, hb]
    rfl
  rw [e, range_mul, List.map_flatMap, List.flatMap_map]
  congr 1
  funext j
  rw [List.map_map]
  apply List.map_congr_left
  intro k hk
  have hk' : k < n.toNat := by simpa using hk
  show splitL (p ++ [n]) ((j * n.toNat + k : Nat) : Int) = splitL p (j : Nat) ++ [((k : Nat) : Int)]
  rw [splitL_snoc p n _ hn]
  have c : ((j * n.toNat + k : Nat) : Int) = (k : Int) + (j : Int) * n := by
    push_cast
    rw [show ((n.toNat : Nat) : Int) = n by omega]; omega
  rw [c, Int.add_mul_ediv_right _ _ (by omega), Int.ediv_eq_zero_of_lt (by omega) (by omega), Int.zero_add, Int.add_mul_emod_self_right, Int.emod_eq_of_lt (by omega) (by omega)]
theorem rowsL_len (ns : List Int) : (rowsL ns).length = (prodL ns).toNat := by simp [rowsL]
theorem prodL_take_le (ns : List Int) (h : ∀ n ∈ ns, 1 ≤ n ∧ n ≤ 1000000000) (i : Nat) : prodL (ns.take i) ≤ prodL ns := by
  have e : prodL ns = prodL (ns.take i) * prodL (ns.drop i) := by rw [← prodL_append, List.take_append_drop]
  have a := (prodL_pos (ns.take i) fun n hn => h n (List.mem_of_mem_take hn)).1
  have b := (prodL_pos (ns.drop i) fun n hn => h n (List.mem_of_mem_drop hn)).1
  rw [e]
  have := Int.mul_le_mul_of_nonneg_left b (show 0 ≤ prodL (ns.take i) by omega)
  omega
end PH
set_option Elab.async false
set_option linter.all false
set_option maxRecDepth 100000
set_option maxHeartbeats 4000000
namespace PH
open PySem L2
def top (i : Nat) : Stmt := PySem.Challenge.pw_pacehall_k72_walks.main.body.getD i (.Pass ⟨0, 0, 0, 0⟩)
abbrev s_TooMany___init__ : Stmt := inClass (top 3) 0
theorem c_TooMany___init__ : FnScope ["self", "number"] ["self", "number"] (defScope s_TooMany___init__) := ⟨rfl, rfl, rfl, by decide +kernel, rfl, by decide +kernel, by decide +kernel⟩
abbrev s_is_whole : Stmt := top 5
theorem c_is_whole : FnScope ["thing"] ["thing"] (defScope s_is_whole) := ⟨rfl, rfl, rfl, by decide +kernel, rfl, by decide +kernel, by decide +kernel⟩
abbrev s_count_of : Stmt := top 8
theorem c_count_of : FnScope ["sizes", "count", "size"] ["sizes"] (defScope s_count_of) := ⟨rfl, rfl, rfl, by decide +kernel, rfl, by decide +kernel, by decide +kernel⟩
abbrev s_is_number_below : Stmt := top 9
theorem c_is_number_below : FnScope ["thing", "bound"] ["thing", "bound"] (defScope s_is_number_below) := ⟨rfl, rfl, rfl, by decide +kernel, rfl, by decide +kernel, by decide +kernel⟩
abbrev s_split_number : Stmt := top 10
theorem c_split_number : FnScope ["sizes", "number", "place", "left", "size"] ["sizes", "number"] (defScope s_split_number) := ⟨rfl, rfl, rfl, by decide +kernel, rfl, by decide +kernel, by decide +kernel⟩
abbrev s_refuse_long : Stmt := top 11
theorem c_refuse_long : FnScope ["count"] ["count"] (defScope s_refuse_long) := ⟨rfl, rfl, rfl, by decide +kernel, rfl, by decide +kernel, by decide +kernel⟩
abbrev s_places : Stmt := top 12
theorem c_places : FnScope ["sizes", "count"] ["sizes"] (defScope s_places) := ⟨rfl, rfl, rfl, by decide +kernel, rfl, by decide +kernel, by decide +kernel⟩
abbrev s_is_loop : Stmt := top 14
theorem c_is_loop : FnScope ["thing", "many"] ["thing", "many"] (defScope s_is_loop) := ⟨rfl, rfl, rfl, by decide +kernel, rfl, by decide +kernel, by decide +kernel⟩
abbrev s_is_order : Stmt := top 15
theorem c_is_order : FnScope ["sizes", "thing", "many"] ["sizes", "thing"] (defScope s_is_order) := ⟨rfl, rfl, rfl, by decide +kernel, rfl, by decide +kernel, by decide +kernel⟩
abbrev s_refuse_order : Stmt := top 16
theorem c_refuse_order : FnScope ["sizes", "order"] ["sizes", "order"] (defScope s_refuse_order) := ⟨rfl, rfl, rfl, by decide +kernel, rfl, by decide +kernel, by decide +kernel⟩
abbrev s_place_by_steps : Stmt := top 17
theorem c_place_by_steps : FnScope ["sizes", "order", "steps", "place", "loop", "step"] ["sizes", "order", "steps"] (defScope s_place_by_steps) := ⟨rfl, rfl, rfl, by decide +kernel, rfl, by decide +kernel, by decide +kernel⟩
abbrev s_walk_of : Stmt := top 18
theorem c_walk_of : FnScope ["sizes", "order", "walk"] ["sizes", "order"] (defScope s_walk_of) := ⟨rfl, rfl, rfl, by decide +kernel, rfl, by decide +kernel, by decide +kernel⟩
abbrev s__law_draw : Stmt := top 20
theorem c__law_draw : FnScope ["_law_script", "_law_k", "_law_many_here", "_law_number", "_law_cell"] ["_law_script", "_law_k", "_law_many_here"] (defScope s__law_draw) := ⟨rfl, rfl, rfl, by decide +kernel, rfl, by decide +kernel, by decide +kernel⟩
abbrev s__law_whole : Stmt := top 21
theorem c__law_whole : FnScope ["_law_found"] ["_law_found"] (defScope s__law_whole) := ⟨rfl, rfl, rfl, by decide +kernel, rfl, by decide +kernel, by decide +kernel⟩
abbrev s__law_digits : Stmt := top 22
theorem c__law_digits : FnScope ["_law_number", "_law_by", "_law_many_here", "_law_found", "_law_k"] ["_law_number", "_law_by", "_law_many_here"] (defScope s__law_digits) := ⟨rfl, rfl, rfl, by decide +kernel, rfl, by decide +kernel, by decide +kernel⟩
abbrev s__law_order : Stmt := top 23
theorem c__law_order : FnScope ["_law_script", "_law_at", "_law_axes", "_law_turn", "_law_ways", "_law_left", "_law_order_here", "_law_axis"] ["_law_script", "_law_at", "_law_axes"] (defScope s__law_order) := ⟨rfl, rfl, rfl, by decide +kernel, rfl, by decide +kernel, by decide +kernel⟩
abbrev s__law_walk : Stmt := top 24
theorem c__law_walk : FnScope ["_law_sizes", "_law_order_here", "_law_found", "_law_axis", "_law_way", "_law_numbers", "_law_longer", "_law_place"] ["_law_sizes", "_law_order_here"] (defScope s__law_walk) := ⟨rfl, rfl, rfl, by decide +kernel, rfl, by decide +kernel, by decide +kernel⟩
abbrev s__law_many : Stmt := top 25
theorem c__law_many : FnScope ["_law_sizes", "_law_count", "_law_size"] ["_law_sizes"] (defScope s__law_many) := ⟨rfl, rfl, rfl, by decide +kernel, rfl, by decide +kernel, by decide +kernel⟩
abbrev s__law_some_sizes : Stmt := top 26
theorem c__law_some_sizes : FnScope ["_law_script", "_law_sizes", "_law_k", "_law_size"] ["_law_script"] (defScope s__law_some_sizes) := ⟨rfl, rfl, rfl, by decide +kernel, rfl, by decide +kernel, by decide +kernel⟩
abbrev s__law_asked : Stmt := top 27
theorem c__law_asked : FnScope ["_law_sizes", "_law_order_here", "_law_found", "e"] ["_law_sizes", "_law_order_here"] (defScope s__law_asked) := ⟨rfl, rfl, rfl, by decide +kernel, rfl, by decide +kernel, by decide +kernel⟩
abbrev s__law_spoilt : Stmt := top 28
theorem c__law_spoilt : FnScope ["_law_order_here", "_law_cell", "_law_axes", "_law_some", "_law_k", "_law_axis", "_law_way", "_law_rows"] ["_law_order_here", "_law_cell"] (defScope s__law_spoilt) := ⟨rfl, rfl, rfl, by decide +kernel, rfl, by decide +kernel, by decide +kernel⟩
abbrev s__law_right : Stmt := top 29
theorem c__law_right : FnScope ["_law_found", "_law_due", "_law_place"] ["_law_found", "_law_due"] (defScope s__law_right) := ⟨rfl, rfl, rfl, by decide +kernel, rfl, by decide +kernel, by decide +kernel⟩
abbrev s_law : Stmt := top 30
theorem c_law : FnScope ["_law_script", "_law_sizes", "_law_order_here", "_law_due", "_law_handed", "_law_found", "_law_k", "_law_great"] ["_law_script"] (defScope s_law) := ⟨rfl, rfl, rfl, by decide +kernel, rfl, by decide +kernel, by decide +kernel⟩
set_option genInjectivity false in
structure Adr where
  a_PaceError : Addr
  a_NoOrder : Addr
  a_TooMany : Addr
  a_TooMany___init__ : Addr
  d_TooMany___init__ : FuncData
  a_is_whole : Addr
  d_is_whole : FuncData
  a_count_of : Addr
  d_count_of : FuncData
  a_is_number_below : Addr
  d_is_number_below : FuncData
  a_split_number : Addr
  d_split_number : FuncData
  a_refuse_long : Addr
  d_refuse_long : FuncData
  a_places : Addr
  d_places : FuncData
  a_is_loop : Addr
  d_is_loop : FuncData
  a_is_order : Addr
  d_is_order : FuncData
  a_refuse_order : Addr
  d_refuse_order : FuncData
  a_place_by_steps : Addr
  d_place_by_steps : FuncData
  a_walk_of : Addr
  d_walk_of : FuncData
  a__law_draw : Addr
  d__law_draw : FuncData
  a__law_whole : Addr
  d__law_whole : FuncData
  a__law_digits : Addr
  d__law_digits : FuncData
  a__law_order : Addr
  d__law_order : FuncData
  a__law_walk : Addr
  d__law_walk : FuncData
  a__law_many : Addr
  d__law_many : FuncData
  a__law_some_sizes : Addr
  d__law_some_sizes : FuncData
  a__law_asked : Addr
  d__law_asked : FuncData
  a__law_spoilt : Addr
  d__law_spoilt : FuncData
  a__law_right : Addr
  d__law_right : FuncData
  a_law : Addr
  d_law : FuncData
structure Tx (K : PySem.W.Frag) (mg : Str → Option Value) (t : Adr) : Prop where
  m_PaceError : mg "PaceError" = some (.ref t.a_PaceError)
  m_NoOrder : mg "NoOrder" = some (.ref t.a_NoOrder)
  m_TooMany : mg "TooMany" = some (.ref t.a_TooMany)
  o_NoOrder : PySem.W.excIn K t.a_NoOrder [.type "ValueError", .type "Exception", .type "BaseException", .type "object"] "ValueError.__new__" = true
  x_NoOrder_PaceError : PySem.W.exmOne K (.ref t.a_NoOrder) (.ref t.a_PaceError) = some true
  x_TooMany_PaceError : PySem.W.exmOne K (.ref t.a_TooMany) (.ref t.a_PaceError) = some true
  ocs : PySem.W.specialIn K (.builtin "object.__class__") "__get__" = some (some (.builtin "getset_descriptor.__get__"))
  oct : PySem.W.takesIn K (.builtin "object.__class__") = some true
  ga_NoOrder : PySem.W.findIn K (.ref t.a_NoOrder) "__getattribute__" = some (some (.builtin "BaseException.__getattribute__"))
  gn_NoOrder : PySem.W.findIn K (.ref t.a_NoOrder) "__getattr__" = some none
  mb_NoOrder : PySem.W.mroIn K t.a_NoOrder (.type "BaseException") = some true
  mo_NoOrder : PySem.W.mroIn K t.a_NoOrder (.type "object") = some true
  fc_NoOrder : PySem.W.findIn K (.ref t.a_NoOrder) "__class__" = some (some (.builtin "object.__class__"))
  hd_NoOrder : PySem.W.hasDictIn K t.a_NoOrder = true
  ga_TooMany : PySem.W.findIn K (.ref t.a_TooMany) "__getattribute__" = some (some (.builtin "BaseException.__getattribute__"))
  gn_TooMany : PySem.W.findIn K (.ref t.a_TooMany) "__getattr__" = some none
  mb_TooMany : PySem.W.mroIn K t.a_TooMany (.type "BaseException") = some true
  mo_TooMany : PySem.W.mroIn K t.a_TooMany (.type "object") = some true
  fc_TooMany : PySem.W.findIn K (.ref t.a_TooMany) "__class__" = some (some (.builtin "object.__class__"))
  hd_TooMany : PySem.W.hasDictIn K t.a_TooMany = true
  kc_NoOrder_NoOrder : PySem.W.hasDictIn K t.a_NoOrder = true
  kt_NoOrder_NoOrder : PySem.W.typeIn K (.ref t.a_NoOrder) = some (.type "type")
  ks_NoOrder_NoOrder : PySem.W.subIn K (.ref t.a_NoOrder) (.ref t.a_NoOrder) = some true
  kc_NoOrder_TooMany : PySem.W.hasDictIn K t.a_TooMany = true
  kt_NoOrder_TooMany : PySem.W.typeIn K (.ref t.a_TooMany) = some (.type "type")
  ks_NoOrder_TooMany : PySem.W.subIn K (.ref t.a_NoOrder) (.ref t.a_TooMany) = some false
  kn_NoOrder_TooMany : (t.a_NoOrder == t.a_TooMany) = false
  ks_NoOrder_ValueError : PySem.W.subIn K (.ref t.a_NoOrder) (.type "ValueError") = some true
  kc_TooMany_NoOrder : PySem.W.hasDictIn K t.a_NoOrder = true
  kt_TooMany_NoOrder : PySem.W.typeIn K (.ref t.a_NoOrder) = some (.type "type")
  ks_TooMany_NoOrder : PySem.W.subIn K (.ref t.a_TooMany) (.ref t.a_NoOrder) = some false
  kn_TooMany_NoOrder : (t.a_TooMany == t.a_NoOrder) = false
  kc_TooMany_TooMany : PySem.W.hasDictIn K t.a_TooMany = true
  kt_TooMany_TooMany : PySem.W.typeIn K (.ref t.a_TooMany) = some (.type "type")
  ks_TooMany_TooMany : PySem.W.subIn K (.ref t.a_TooMany) (.ref t.a_TooMany) = some true
  ks_TooMany_ValueError : PySem.W.subIn K (.ref t.a_TooMany) (.type "ValueError") = some true
  m_MOST_TOLD : ∃ tk, mg "MOST_TOLD" = some (.int 4096 tk)
  oi_TooMany : OwnI K t.a_TooMany t.a_TooMany___init__
  tk_TooMany_number : PySem.W.takerIn K t.a_TooMany "number" = some none
  na_TooMany_number : NoAttr K t.a_TooMany "number"
  bi_PaceError : BaseI K t.a_PaceError
  F_TooMany___init__ : Fun K "__init__" "TooMany.__init__" s_TooMany___init__ t.a_TooMany___init__ t.d_TooMany___init__
  b_TooMany___init__ : Binds K t.d_TooMany___init__ ["self", "number"] []
  F_is_whole : Fun K "is_whole" "is_whole" s_is_whole t.a_is_whole t.d_is_whole
  m_is_whole : mg "is_whole" = some (.ref t.a_is_whole)
  b_is_whole : Binds K t.d_is_whole ["thing"] []
  F_count_of : Fun K "count_of" "count_of" s_count_of t.a_count_of t.d_count_of
  m_count_of : mg "count_of" = some (.ref t.a_count_of)
  b_count_of : Binds K t.d_count_of ["sizes"] []
  F_is_number_below : Fun K "is_number_below" "is_number_below" s_is_number_below t.a_is_number_below t.d_is_number_below
  m_is_number_below : mg "is_number_below" = some (.ref t.a_is_number_below)
  b_is_number_below : Binds K t.d_is_number_below ["thing", "bound"] []
  F_split_number : Fun K "split_number" "split_number" s_split_number t.a_split_number t.d_split_number
  m_split_number : mg "split_number" = some (.ref t.a_split_number)
  b_split_number : Binds K t.d_split_number ["sizes", "number"] []
  F_refuse_long : FunX K "refuse_long" "refuse_long" s_refuse_long t.a_refuse_long t.d_refuse_long
  m_refuse_long : mg "refuse_long" = some (.ref t.a_refuse_long)
  b_refuse_long : Binds K t.d_refuse_long ["count"] []
  F_places : FunX K "places" "places" s_places t.a_places t.d_places
  m_places : mg "places" = some (.ref t.a_places)
  b_places : Binds K t.d_places ["sizes"] []
  F_is_loop : Fun K "is_loop" "is_loop" s_is_loop t.a_is_loop t.d_is_loop
  m_is_loop : mg "is_loop" = some (.ref t.a_is_loop)
  b_is_loop : Binds K t.d_is_loop ["thing", "many"] []
  F_is_order : Fun K "is_order" "is_order" s_is_order t.a_is_order t.d_is_order
  m_is_order : mg "is_order" = some (.ref t.a_is_order)
  b_is_order : Binds K t.d_is_order ["sizes", "thing"] []
  F_refuse_order : FunX K "refuse_order" "refuse_order" s_refuse_order t.a_refuse_order t.d_refuse_order
  m_refuse_order : mg "refuse_order" = some (.ref t.a_refuse_order)
  b_refuse_order : Binds K t.d_refuse_order ["sizes", "order"] []
  F_place_by_steps : Fun K "place_by_steps" "place_by_steps" s_place_by_steps t.a_place_by_steps t.d_place_by_steps
  m_place_by_steps : mg "place_by_steps" = some (.ref t.a_place_by_steps)
  b_place_by_steps : Binds K t.d_place_by_steps ["sizes", "order", "steps"] []
  F_walk_of : FunX K "walk_of" "walk_of" s_walk_of t.a_walk_of t.d_walk_of
  m_walk_of : mg "walk_of" = some (.ref t.a_walk_of)
  b_walk_of : Binds K t.d_walk_of ["sizes", "order"] []
  F__law_draw : Fun K "_law_draw" "_law_draw" s__law_draw t.a__law_draw t.d__law_draw
  m__law_draw : mg "_law_draw" = some (.ref t.a__law_draw)
  b__law_draw : Binds K t.d__law_draw ["_law_script", "_law_k", "_law_many_here"] []
  F__law_whole : Fun K "_law_whole" "_law_whole" s__law_whole t.a__law_whole t.d__law_whole
  m__law_whole : mg "_law_whole" = some (.ref t.a__law_whole)
  b__law_whole : Binds K t.d__law_whole ["_law_found"] []
  F__law_digits : Fun K "_law_digits" "_law_digits" s__law_digits t.a__law_digits t.d__law_digits
  m__law_digits : mg "_law_digits" = some (.ref t.a__law_digits)
  b__law_digits : Binds K t.d__law_digits ["_law_number", "_law_by", "_law_many_here"] []
  F__law_order : Fun K "_law_order" "_law_order" s__law_order t.a__law_order t.d__law_order
  m__law_order : mg "_law_order" = some (.ref t.a__law_order)
  b__law_order : Binds K t.d__law_order ["_law_script", "_law_at", "_law_axes"] []
  F__law_walk : Fun K "_law_walk" "_law_walk" s__law_walk t.a__law_walk t.d__law_walk
  m__law_walk : mg "_law_walk" = some (.ref t.a__law_walk)
  b__law_walk : Binds K t.d__law_walk ["_law_sizes", "_law_order_here"] []
  F__law_many : Fun K "_law_many" "_law_many" s__law_many t.a__law_many t.d__law_many
  m__law_many : mg "_law_many" = some (.ref t.a__law_many)
  b__law_many : Binds K t.d__law_many ["_law_sizes"] []
  F__law_some_sizes : Fun K "_law_some_sizes" "_law_some_sizes" s__law_some_sizes t.a__law_some_sizes t.d__law_some_sizes
  m__law_some_sizes : mg "_law_some_sizes" = some (.ref t.a__law_some_sizes)
  b__law_some_sizes : Binds K t.d__law_some_sizes ["_law_script"] []
  F__law_asked : Fun K "_law_asked" "_law_asked" s__law_asked t.a__law_asked t.d__law_asked
  m__law_asked : mg "_law_asked" = some (.ref t.a__law_asked)
  b__law_asked : Binds K t.d__law_asked ["_law_sizes", "_law_order_here"] []
  F__law_spoilt : Fun K "_law_spoilt" "_law_spoilt" s__law_spoilt t.a__law_spoilt t.d__law_spoilt
  m__law_spoilt : mg "_law_spoilt" = some (.ref t.a__law_spoilt)
  b__law_spoilt : Binds K t.d__law_spoilt ["_law_order_here", "_law_cell"] []
  F__law_right : Fun K "_law_right" "_law_right" s__law_right t.a__law_right t.d__law_right
  m__law_right : mg "_law_right" = some (.ref t.a__law_right)
  b__law_right : Binds K t.d__law_right ["_law_found", "_law_due"] []
  F_law : Fun K "law" "law" s_law t.a_law t.d_law
  m_law : mg "law" = some (.ref t.a_law)
  b_law : Binds K t.d_law ["_law_script"] []
  z_ValueError : mg "ValueError" = none
  z_all : mg "all" = none
  z_bool : mg "bool" = none
  z_int : mg "int" = none
  z_isinstance : mg "isinstance" = none
  z_len : mg "len" = none
  z_list : mg "list" = none
  z_range : mg "range" = none
  z_reversed : mg "reversed" = none
  z_set : mg "set" = none
  z_str : mg "str" = none
  z_tuple : mg "tuple" = none
  z_zip : mg "zip" = none
theorem Tx.e_NoOrder {K : PySem.W.Frag} {mg : Str → Option Value} {t : Adr} (T : Tx K mg t) : ECls K t.a_NoOrder := ⟨T.ga_NoOrder, T.gn_NoOrder, T.mb_NoOrder, T.mo_NoOrder, T.fc_NoOrder, T.ocs, T.oct, T.hd_NoOrder⟩
theorem Tx.e_TooMany {K : PySem.W.Frag} {mg : Str → Option Value} {t : Adr} (T : Tx K mg t) : ECls K t.a_TooMany := ⟨T.ga_TooMany, T.gn_TooMany, T.mb_TooMany, T.mo_TooMany, T.fc_TooMany, T.ocs, T.oct, T.hd_TooMany⟩
theorem Tx.k_NoOrder_NoOrder {K : PySem.W.Frag} {mg : Str → Option Value} {t : Adr} (T : Tx K mg t) : PySem.W.kitOne K (.ref t.a_NoOrder) (.ref t.a_NoOrder) = some true := kit_yes T.kc_NoOrder_NoOrder T.kt_NoOrder_NoOrder T.ks_NoOrder_NoOrder
theorem Tx.k_NoOrder_TooMany {K : PySem.W.Frag} {mg : Str → Option Value} {t : Adr} (T : Tx K mg t) : PySem.W.kitOne K (.ref t.a_NoOrder) (.ref t.a_TooMany) = some false := kit_no T.kn_NoOrder_TooMany T.kc_NoOrder_TooMany T.kt_NoOrder_TooMany T.ks_NoOrder_TooMany
theorem Tx.k_NoOrder_ValueError {K : PySem.W.Frag} {mg : Str → Option Value} {t : Adr} (T : Tx K mg t) : PySem.W.kitOne K (.ref t.a_NoOrder) (.type "ValueError") = some true := kit_ty (by decide +kernel) T.ks_NoOrder_ValueError
theorem Tx.k_TooMany_NoOrder {K : PySem.W.Frag} {mg : Str → Option Value} {t : Adr} (T : Tx K mg t) : PySem.W.kitOne K (.ref t.a_TooMany) (.ref t.a_NoOrder) = some false := kit_no T.kn_TooMany_NoOrder T.kc_TooMany_NoOrder T.kt_TooMany_NoOrder T.ks_TooMany_NoOrder
theorem Tx.k_TooMany_TooMany {K : PySem.W.Frag} {mg : Str → Option Value} {t : Adr} (T : Tx K mg t) : PySem.W.kitOne K (.ref t.a_TooMany) (.ref t.a_TooMany) = some true := kit_yes T.kc_TooMany_TooMany T.kt_TooMany_TooMany T.ks_TooMany_TooMany
theorem Tx.k_TooMany_ValueError {K : PySem.W.Frag} {mg : Str → Option Value} {t : Adr} (T : Tx K mg t) : PySem.W.kitOne K (.ref t.a_TooMany) (.type "ValueError") = some true := kit_ty (by decide +kernel) T.ks_TooMany_ValueError
local macro_rules | `(tactic| simp_all (failIfUnchanged := false) only [$xs,*]) => do
  let ys := xs.getElems.map fun x => (⟨x.raw⟩ : Lean.TSyntax `Lean.Parser.Tactic.simpLemma)
  let zs ← ("↓reduceIte ↓optK_some ↓gName_0 ↓gName_1 ↓gName_2 ↓gName_3 ↓gName_4 ↓gName_5 ↓gName_6 ↓gName_7 ↓m_kOp' ↓m_kOp ↓m_tOp ↓m_tC ↓m_kUn ↓m_tUn ↓m_kNot ↓m_tNot ↓m_kAnd ↓m_tAnd ↓m_kOr ↓m_tOr ↓m_kIfE ↓m_tIf ↓m_kCh3 ↓m_tNil ↓m_kCons' ↓m_kCons ↓m_tCons ↓m_kCall_1 ↓m_kCall_2 ↓m_kCall_3 ↓m_tCall ↓m_kCB ↓m_tCB ↓m_tNext ↓m_tSeq ↓m_tRet ↓m_kDrop ↓m_tDrop ↓m_kIfS ↓m_tIfS ↓m_kAsg ↓m_tAsg ↓m_kGs ↓m_kLen ↓m_qLen ↓m_kIx' ↓m_kIx ↓m_qIx ↓m_qStr ↓m_qIsi_int ↓m_qIsi_bool ↓m_qIsi_tuple ↓m_qIsi_list ↓m_kIsi_Ni ↓m_kIsi_Nl ↓m_kIsi_Nt ↓m_kIsi_bb ↓m_kIsi_bi ↓m_kIsi_bl ↓m_kIsi_bt ↓m_kIsi_ib ↓m_kIsi_ii ↓m_kIsi_il ↓m_kIsi_it ↓m_kIsi_si ↓m_kIsi_sl ↓m_kIsi_st ↓m_kIsi_li ↓m_kIsi_ll ↓m_kIsi_lt ↓m_kIsi_ti ↓m_kIsi_tl ↓m_kIsi_tt ↓m_kIsi_di ↓m_kIsi_dl ↓m_kIsi_dt ↓m_kBM' ↓m_kBM ↓m_tBM ↓m_kBM0 ↓m_tBM0 ↓m_kApp ↓m_rAppend ↓m_kRev ↓m_rReverse ↓m_kSet' ↓m_kSet ↓m_rSetL ↓m_kGSub3 ↓m_kGSub2 ↓m_gSub ↓m_kGT ↓m_qGT ↓m_kBody ↓m_tFor ↓m_kR1 ↓m_iRng1 ↓m_kISq'_l ↓m_kISq'_t ↓m_kISq ↓m_iSeq ↓m_kWh ↓m_tCallX ↓m_kTry ↓m_tTry ↓m_kRaise ↓m_tRaise ↓m_kSetE ↓m_kExcAs ↓m_tExcAs ↓m_del ↓m_dictO_none ↓m_dictO_some ↓m_kXd ↓m_kE4 ↓m_kE3 ↓m_kE2 ↓m_kE1 ↓m_qIsE ↓m_tYes ↓m_tComp ↓m_datV ↓m_datF_int ↓m_datF_str ↓m_datF_ref ↓m_datO_lst ↓m_datO_tup ↓m_allSome_nil ↓m_allSome_cons ↓m_kEq2_t ↓m_kEq1 ↓m_qEq_refr ↓m_qEq_int_int ↓m_qNe_int_int ↓m_qNe_str_str ↓m_kInts ↓m_kSl3 ↓m_kSl2 ↓m_kSl1 ↓m_tSl ↓m_tNoPart ↓m_kPart ↓m_tPart ↓m_kQT ↓m_kQL ↓m_qTup ↓m_qLst ↓m_kN ↓m_nList ↓m_kNT_l ↓m_nTuple ↓m_kNC2 ↓m_kNC1 ↓m_nCat ↓m_kNS ↓m_nSl ↓m_nDNew ↓m_kRvJ ↓m_kRvI ↓m_iRev ↓m_kBls ↓m_kAllB ↓m_qAll ↓m_kZ2_t ↓m_kZ1_l ↓m_kZ0 ↓m_iZip ↓m_kCm2 ↓m_kCm_1 ↓m_rep_1 ↓m_tXI ↓m_xSetF ↓m_kXS0 ↓m_tRaiseI ↓m_tXF ↓m_kCT1 ↓m_nCatT ↓m_kExt2 ↓m_kExt1 ↓m_rExtend ↓m_tLR ↓m_tV_0 ↓m_tV_1 ↓m_tV_2 ↓m_tV_3 ↓m_tV_4 ↓m_tV_5 ↓m_tV_6 ↓m_tV_7 ↓m_tV_8 ↓m_nI0 ↓m_nI ↓m_nU ↓m_kTestN ↓m_nTest ↓m_kAndN ↓m_nAndV ↓m_kOrN ↓m_nOrV ↓m_kNotN ↓m_nNotV ↓m_kChN2 ↓m_kChN1 ↓m_kChN0 ↓m_nChain ↓m_gNilN ↓m_gConsN ↓m_kRep ↓m_nRep ↓m_kPopA ↓m_nPopAt ↓m_kInI ↓m_nIn ↓m_nSlT optK_some itemsAt lstAt tupAt seqO_lst seqO_tup lstO_lst tupO_tup bind_some' upd_same tyO_lst tyO_tup tyO_dK tyN_non tyN_bl tyN_int tyN_str tyN_ref tyV_list isW_int' isW_bl' isW_non' isW_str' cx_K refC_ref clsV_ref clsV_ty atI_0 atI_1 eqv_int eqv_str eqv_tuple eqv_list eqvAll_nil eqvAll_cons eqvAll_l allSome_ints CDiv_eq CMul_l CPow_10 Option.isSome_some Option.isSome_none Option.map_some List.length_cons List.length_nil List.length_map List.map_cons List.map_nil and_true true_and and_self implies_true reduceCtorEq decide_true decide_false Bool.not_true Bool.not_false if_true if_false decide_eq_true_eq Bool.false_eq_true Bool.not_eq_true' decide_eq_false_iff_not Bool.and_true Bool.true_and Bool.and_self Bool.and_eq_true Int.reduceToNat Int.reducePow Int.reduceMul Int.reduceAdd Int.reduceSub Int.reduceNeg Int.reduceLT Int.reduceLE Int.reduceEq Int.reduceNe Int.reduceDiv Int.reduceMod Nat.reduceAdd Nat.reduceLeDiff Nat.reduceLT Nat.reduceMul Nat.reducePow gt_iff_lt ge_iff_le ne_eq false_implies true_implies eq_self String.reduceEq Int.cast_ofNat_Int not_true_eq_false not_false_eq_true false_and and_false List.cons_append List.nil_append List.append_nil lenLe".splitOn " ").toArray.mapM fun s => if s.startsWith "↓" then `(Lean.Parser.Tactic.simpLemma| ↓ $(Lean.mkIdent (s.replace "↓" "").toName):ident) else `(Lean.Parser.Tactic.simpLemma| $(Lean.mkIdent s.toName):ident)
  `(tactic| simp (config := { maxDischargeDepth := 30, maxSteps := 10000000 }) only [$zs,*, $ys,*, *])
section
variable {P : Program} {w : World} {K : PySem.W.Frag} {mg : Str → Option Value} {base : Heap} {t : Adr}
def spDraw (K : PySem.W.Frag) (a : Addr) (ns : List Int) : Sp := fun vs H Q E => ∃ (k : Int) (m : Int), vs = [.ref a, .int k, .int m] ∧ (SqL K H a (ns.map V.int) ∧ ns.length ≤ 63 ∧ (0 ≤ k ∧ k < 1000) ∧ 0 < m ∧ ∀ z : Int, 0 ≤ z → z < m → Q (.int z) H)
theorem c_spDraw (K : PySem.W.Frag) (a : Addr) (ns : List Int) (k : Int) (m : Int) (H : Hp) (Q : VK) (E : XK) : spDraw K a ns [.ref a, .int k, .int m] H Q E = (SqL K H a (ns.map V.int) ∧ ns.length ≤ 63 ∧ (0 ≤ k ∧ k < 1000) ∧ 0 < m ∧ ∀ z : Int, 0 ≤ z → z < m → Q (.int z) H) := spx2 (f := fun (k : Int) (m : Int) => [.ref a, .int k, .int m]) (fun _ _ _ _ h => by cases h; exact ⟨rfl, rfl⟩) k m
theorem l_spDraw (K : PySem.W.Frag) (a : Addr) (ns : List Int) {vs : List V} {H : Hp} {Q : VK} {E : XK} (h : spDraw K a ns vs H Q E) : vs.length = 3 := spl2 h fun _ _ => rfl
theorem ok__law_draw (T : Tx K mg t) (a : Addr) (ns : List Int) : FnOk P w K mg base CX0 1 t.a__law_draw t.d__law_draw ["_law_script", "_law_k", "_law_many_here"] (spDraw K a ns) := by
  refine T.F__law_draw.ok c__law_draw (fun vs H Q E h => l_spDraw _ _ _ h) (fun cdv A outer s H vs Q E hr h => ?_)
  · obtain ⟨k, m, rfl, hS, hl, ⟨hk0, hk1⟩, hm, kk⟩ := h
    have fin : ∀ z : Int, Q (.int (z % m)) H := fun z => kk _ (Int.emod_nonneg _ (by omega)) (Int.emod_lt_of_pos _ hm)
    refine ⟨_, (pss_cons (ps_if (pt_cmpR op_lt (pv 1) (pe_callB (id := "len") call_len_seq (by rfl) T.z_len (by decide +kernel) (pa_c (pv 0) pa_nil)) (nomark _))
      (pss_one (ps_ret (pe_op op_mod (pe_ix ix_list (pv 0) (pv 1) (fun _ _ => rfl)) (pv 2))))
      pss_nil)
    (pss_cons (ps_set (i := 3) c__law_draw.nd rfl (Or.inl rfl) (pe_op op_add (pe_op op_mul (pe_op op_mul (pv 1) (pv 1)) pe_int) pe_int))
    (pss_cons (ps_if (pt_cmpR op_gt (pe_callB (id := "len") call_len_seq (by rfl) T.z_len (by decide +kernel) (pa_c (pv 0) pa_nil)) pe_int (nomark _))
      (pss_cons (ps_set (i := 4) c__law_draw.nd rfl (Or.inl rfl) (pe_op op_mod (pe_ix ix_list (pv 0) (pe_op op_mod (pv 1) (pe_callB (id := "len") call_len_seq (by rfl) T.z_len (by decide +kernel) (pa_c (pv 0) pa_nil))) (fun _ _ => rfl)) pe_int))
      (pss_one (ps_set (i := 3) c__law_draw.nd rfl (Or.inl rfl) (pe_op op_add (pe_op op_mul (pv 4) (pe_op op_add pe_int (pe_op op_mul (pe_op op_mul pe_int (pv 1)) (pv 1)))) (pe_op op_mul (pv 1) pe_int)))))
      pss_nil)
    (pss_one (ps_ret (pe_op op_mod (pe_op op_mod (pe_op op_mul (pe_op op_mod (pv 3) pe_int) pe_int) pe_int) (pv 2))))))), ?_⟩
    refine ⟨_, rfl, _, rfl, a, _, rfl, .inl hS, _, _, rfl, rfl, _, rfl, ?_⟩
    refine ite2 (fun h => ?_) (fun h => ?_)
    · have h1 : k < (ns.length : Int) := by simpa using h
      obtain ⟨z, hz, _⟩ := atI_ints ns k hk0 h1
      exact ⟨_, rfl, _, rfl, a, _, k, _, rfl, rfl, hS, hz, _, rfl, _, _, rfl, rfl, hm, fin _⟩
    · refine ⟨_, rfl, _, rfl, _, _, rfl, rfl, .inl ⟨by omega, by omega⟩, _, _, rfl, rfl, .inr ⟨by decide, by decide⟩, _, _, rfl, rfl, ?_⟩
      refine ⟨_, rfl, a, _, rfl, .inl hS, _, _, rfl, rfl, _, rfl, ?_⟩
      refine ite2 (fun h2 => ?_) (fun h2 => ?_)
      · have h3 : 0 < (ns.length : Int) := by simpa using h2
        have h4 : (0 : Int) < ((ns.map V.int).length : Int) := by simpa using h3
        obtain ⟨z, hz, _⟩ := atI_ints ns (k % ((ns.map V.int).length : Int)) (Int.emod_nonneg _ (by omega)) (by have := Int.emod_lt_of_pos k h4; simpa using this)
        refine ⟨_, rfl, _, rfl, _, rfl, a, _, rfl, .inl hS, _, _, rfl, rfl, h4, a, _, _, _, rfl, rfl, hS, hz, _, _, rfl, rfl, (by first | decide | (show (0 : Int) < _; decide)), ?_⟩
        refine ⟨_, rfl, _, rfl, _, _, rfl, rfl, .inl ⟨by decide, by decide⟩, _, rfl, _, _, rfl, rfl, .inr ⟨by omega, by omega⟩, _, _, rfl, rfl, _, _, rfl, rfl, ?_, ?_⟩
        · refine .inl ⟨?_, ?_⟩
          · have := Int.emod_nonneg z (show (999999937 : Int) ≠ 0 by decide); omega
          · have := Int.emod_lt_of_pos z (show (0 : Int) < 999999937 by decide); omega
        refine ⟨_, rfl, _, _, rfl, rfl, .inr ⟨by decide, by decide⟩, _, _, rfl, rfl, ?_⟩
        exact ⟨_, rfl, _, _, rfl, rfl, (by first | decide | (show (0 : Int) < _; decide)), _, _, rfl, rfl, .inr ⟨by decide, by decide⟩, _, _, rfl, rfl, (by first | decide | (show (0 : Int) < _; decide)), _, rfl, _, _, rfl, rfl, hm, fin _⟩
      · exact ⟨_, rfl, _, _, rfl, rfl, (by first | decide | (show (0 : Int) < _; decide)), _, _, rfl, rfl, .inr ⟨by decide, by decide⟩, _, _, rfl, rfl, (by first | decide | (show (0 : Int) < _; decide)), _, rfl, _, _, rfl, rfl, hm, fin _⟩
def spWhole  : Sp := fun vs H Q E => ∃ (x : V), vs = [x] ∧ (optK (isW H x) (kE4 H Q))
theorem c_spWhole  (x : V) (H : Hp) (Q : VK) (E : XK) : spWhole  [x] H Q E = (optK (isW H x) (kE4 H Q)) := spx1 (f := fun (x : V) => [x]) (fun _ _ h => by cases h; exact rfl) x
theorem l_spWhole  {vs : List V} {H : Hp} {Q : VK} {E : XK} (h : spWhole  vs H Q E) : vs.length = 1 := spl1 h fun _ => rfl
theorem ok__law_whole (T : Tx K mg t) : FnOk P w K mg base CX0 1 t.a__law_whole t.d__law_whole ["_law_found"] spWhole := by
  refine T.F__law_whole.ok c__law_whole (fun vs H Q E h => l_spWhole h) (fun cdv A outer s H vs Q E hr h => ?_)
  · obtain ⟨x, rfl, h⟩ := h
    obtain ⟨b, hb, k⟩ := optK_ex h
    clear h
    rw [m_kE4] at k
    refine ⟨_, (@pss_one _ _ _ (@ps_ret _ _ _ _ (@pe_andN _ _ _ _ _ _ _ (@pe_callB _ _ _ _ _ _ _ ("isinstance") _ call_qIsi (by rfl) T.z_isinstance (by decide +kernel) (@pa_c _ _ _ _ _ (@pvN _ 0 _ _ (by rfl) (by first | exact Or.inl rfl | exact Or.inr (Or.inl rfl) | exact Or.inr (Or.inr rfl)) (by decide) (by decide)) (@pa_c _ _ _ _ _ (@pe_bltn _ _ (.ty "int") (.type "int") _ (by rfl) T.z_int (by decide +kernel) rfl (by decide) (by decide)) (@pa_nil _) (by rfl)) (by rfl)) (by decide) (by decide) (by rfl) (by rfl)) (@pe_one _ _ _ _ _ (@pe_notN _ _ _ _ (@pe_callB _ _ _ _ _ _ _ ("isinstance") _ call_qIsi (by rfl) T.z_isinstance (by decide +kernel) (@pa_c _ _ _ _ _ (@pvN _ 0 _ _ (by rfl) (by first | exact Or.inl rfl | exact Or.inr (Or.inl rfl) | exact Or.inr (Or.inr rfl)) (by decide) (by decide)) (@pa_c _ _ _ _ _ (@pe_bltn _ _ (.ty "bool") (.type "bool") _ (by rfl) T.z_bool (by decide +kernel) rfl (by decide) (by decide)) (@pa_nil _) (by rfl)) (by rfl)) (by decide) (by decide) (by rfl) (by rfl))))))), ?_⟩
    rw [show start ["_law_found"] [x] = [some (x)] from rfl]
    cases x with
    | int i => cases hb; simp_all (failIfUnchanged := false) only [and_true]
    | bl i => cases hb; simp_all (failIfUnchanged := false) only [and_true]
    | non => cases hb; simp_all (failIfUnchanged := false) only [and_true]
    | str i => cases hb; simp_all (failIfUnchanged := false) only [and_true]
    | ref p =>
      obtain ⟨rfl, o, ho, ht⟩ := isW_obj hb
      rcases ht with ht | ht | ht <;> simp_all (failIfUnchanged := false) only [and_true]
    | _ => cases hb
theorem ok_is_whole (T : Tx K mg t) : FnOk P w K mg base CX0 1 t.a_is_whole t.d_is_whole ["thing"] spWhole := by
  refine T.F_is_whole.ok c_is_whole (fun vs H Q E h => l_spWhole h) (fun cdv A outer s H vs Q E hr h => ?_)
  · obtain ⟨x, rfl, h⟩ := h
    obtain ⟨b, hb, k⟩ := optK_ex h
    clear h
    rw [m_kE4] at k
    refine ⟨_, (@pss_one _ _ _ (@ps_ret _ _ _ _ (@pe_andN _ _ _ _ _ _ _ (@pe_callB _ _ _ _ _ _ _ ("isinstance") _ call_qIsi (by rfl) T.z_isinstance (by decide +kernel) (@pa_c _ _ _ _ _ (@pvN _ 0 _ _ (by rfl) (by first | exact Or.inl rfl | exact Or.inr (Or.inl rfl) | exact Or.inr (Or.inr rfl)) (by decide) (by decide)) (@pa_c _ _ _ _ _ (@pe_bltn _ _ (.ty "int") (.type "int") _ (by rfl) T.z_int (by decide +kernel) rfl (by decide) (by decide)) (@pa_nil _) (by rfl)) (by rfl)) (by decide) (by decide) (by rfl) (by rfl)) (@pe_one _ _ _ _ _ (@pe_notN _ _ _ _ (@pe_callB _ _ _ _ _ _ _ ("isinstance") _ call_qIsi (by rfl) T.z_isinstance (by decide +kernel) (@pa_c _ _ _ _ _ (@pvN _ 0 _ _ (by rfl) (by first | exact Or.inl rfl | exact Or.inr (Or.inl rfl) | exact Or.inr (Or.inr rfl)) (by decide) (by decide)) (@pa_c _ _ _ _ _ (@pe_bltn _ _ (.ty "bool") (.type "bool") _ (by rfl) T.z_bool (by decide +kernel) rfl (by decide) (by decide)) (@pa_nil _) (by rfl)) (by rfl)) (by decide) (by decide) (by rfl) (by rfl))))))), ?_⟩
    rw [show start ["thing"] [x] = [some (x)] from rfl]
    cases x with
    | int i => cases hb; simp_all (failIfUnchanged := false) only [and_true]
    | bl i => cases hb; simp_all (failIfUnchanged := false) only [and_true]
    | non => cases hb; simp_all (failIfUnchanged := false) only [and_true]
    | str i => cases hb; simp_all (failIfUnchanged := false) only [and_true]
    | ref p =>
      obtain ⟨rfl, o, ho, ht⟩ := isW_obj hb
      rcases ht with ht | ht | ht <;> simp_all (failIfUnchanged := false) only [and_true]
    | _ => cases hb
def kSz (F : List Int → Prop) : List Int → Prop := fun ns => Sizes ns ∧ F ns
theorem m_kSz (F : List Int → Prop) (ns : List Int) : kSz F ns = (Sizes ns ∧ F ns) := rfl
def kCnt (H : Hp) (Q : VK) : List Int → Prop := fun ns => Q (.int (prodL ns)) H
theorem x_kCnt (H : Hp) (Q : VK) (ns : List Int) : kCnt H Q ns = Q (.int (prodL ns)) H := rfl
def spCount  : Sp := fun vs H Q E => ∃ (p : Addr), vs = [.ref p] ∧ (optK (lstAt H p) (kInts (kSz (kCnt H Q))))
theorem c_spCount  (p : Addr) (H : Hp) (Q : VK) (E : XK) : spCount  [.ref p] H Q E = (optK (lstAt H p) (kInts (kSz (kCnt H Q)))) := spx1 (f := fun (p : Addr) => [.ref p]) (fun _ _ h => by cases h; exact rfl) p
theorem l_spCount  {vs : List V} {H : Hp} {Q : VK} {E : XK} (h : spCount  vs H Q E) : vs.length = 1 := spl1 h fun _ => rfl
theorem ok_count_of (T : Tx K mg t) : FnOk P w K mg base CX0 1 t.a_count_of t.d_count_of ["sizes"] spCount := by
  refine T.F_count_of.ok c_count_of (fun vs H Q E h => l_spCount h) (fun cdv A outer s H vs Q E hr h => ?_)
  · obtain ⟨p, rfl, h⟩ := h
    obtain ⟨xs, hp, ns, rfl, hs, k⟩ := optK_ex h
    replace hp := lst_of hp
    rw [x_kCnt] at k
    refine ⟨_, (@pss_cons _ _ _ _ _ (@ps_set _ _ (1) _ _ _ _ c_count_of.nd rfl (Or.inl rfl) (@pe_int _ _ _ _) (by rfl) (by first | exact .inl rfl | exact .inr rfl | assumption)) (@pss_cons _ _ _ _ _ (@ps_for _ _ _ _ _ _ _ _ PassesOwn.never rfl (@pi_seq _ _ _ _ (@pvN _ 0 _ _ (by rfl) (by first | exact Or.inl rfl | exact Or.inr (Or.inl rfl) | exact Or.inr (Or.inr rfl)) (by decide) (by decide))) (@pg_name _ _ (2) _ c_count_of.nd rfl (Or.inl rfl) (by first | exact .inl rfl | exact .inr rfl | assumption)) (@pss_one _ _ _ (@ps_set _ _ (1) _ _ _ _ c_count_of.nd rfl (Or.inl rfl) (@pe_op _ _ _ _ _ _ _ _ on_mulB (@pvN _ 1 _ _ (by rfl) (by first | exact Or.inl rfl | exact Or.inr (Or.inl rfl) | exact Or.inr (Or.inr rfl)) (by decide) (by decide)) (@pvN _ 2 _ _ (by rfl) (by first | exact Or.inl rfl | exact Or.inr (Or.inl rfl) | exact Or.inr (Or.inr rfl)) (by decide) (by decide))) (by rfl) (by first | exact .inl rfl | exact .inr rfl | assumption))) (by intros; rfl)) (@pss_one _ _ _ (@ps_ret _ _ _ _ (@pvN _ 1 _ _ (by rfl) (by first | exact Or.inl rfl | exact Or.inr (Or.inl rfl) | exact Or.inr (Or.inr rfl)) (by decide) (by decide)))))), ?_⟩
    rw [show start ["sizes", "count", "size"] [.ref p] = [some (.ref p), none, none] from rfl]
    simp_all (failIfUnchanged := false) only [and_true]
    refine for_lst (xs := ns.map V.int) (fun i σ H' => ∃ v : Option V, σ = [some (.ref p), some (.int (prodL (ns.take i))), v] ∧ H' = H) ⟨_, rfl, rfl⟩ (fun i σ H' _ ⟨_, _, e⟩ => by subst e; exact hp) ?_ ?_
    · rintro i x _ _ hi ⟨v, rfl, rfl⟩
      rw [List.getElem?_map] at hi
      obtain ⟨z, hz, rfl⟩ := Option.map_eq_some_iff.mp hi
      have e := prodL_take ns i z hz
      have b1 := (hs.take i).prod
      have b2 := hs.2 z (List.mem_of_getElem? hz)
      have c1 : (prodL (ns.take i)).natAbs < 2 ^ 256 := by
        generalize prodL (ns.take i) = y at b1
        have : (1000000000 : Int) ^ 8 < 2 ^ 256 := by decide
        omega
      have c2 : z.natAbs < 2 ^ 256 := by omega
      clear b1 b2
      simp_all (failIfUnchanged := false) only [↓m_kBody, CMulB_of]
      exact ⟨_, rfl⟩
    · rintro _ _ ⟨v, rfl, rfl⟩
      rw [List.length_map, List.take_length]
      simp_all (failIfUnchanged := false) only [and_true]
def kBelow (x : V) (b : Int) (H : Hp) (Q : VK) : Bool → Prop := fun _ => Q (.bl (belowF x b)) H
theorem x_kBelow (x : V) (b : Int) (H : Hp) (Q : VK) (c : Bool) : kBelow x b H Q c = Q (.bl (belowF x b)) H := rfl
def spBelow  : Sp := fun vs H Q E => ∃ (x : V) (b : Int), vs = [x, .int b] ∧ (optK (isW H x) (kBelow x b H Q))
theorem c_spBelow  (x : V) (b : Int) (H : Hp) (Q : VK) (E : XK) : spBelow  [x, .int b] H Q E = (optK (isW H x) (kBelow x b H Q)) := spx2 (f := fun (x : V) (b : Int) => [x, .int b]) (fun _ _ _ _ h => by cases h; exact ⟨rfl, rfl⟩) x b
theorem l_spBelow  {vs : List V} {H : Hp} {Q : VK} {E : XK} (h : spBelow  vs H Q E) : vs.length = 2 := spl2 h fun _ _ => rfl
theorem ok_is_number_below (T : Tx K mg t) : FnOk P w K mg base CX0 2 t.a_is_number_below t.d_is_number_below ["thing", "bound"] spBelow := by
  have G_is_whole := ok_is_whole (P := P) (w := w) (base := base) T
  refine T.F_is_number_below.ok c_is_number_below (fun vs H Q E h => l_spBelow h) (fun cdv A outer s H vs Q E hr h => ?_)
  · obtain ⟨x, b, rfl, h⟩ := h
    obtain ⟨c, hw, k⟩ := optK_ex h
    rw [x_kBelow] at k
    refine ⟨_, (@pss_one _ _ _ (@ps_ret _ _ _ _ (@pe_andN _ _ _ _ _ _ _ (@pe_call _ _ _ _ _ _ _ _ _ _ _ _ _ _ _ _ G_is_whole (hr.mono (by decide)) (by rfl) T.m_is_whole T.F_is_whole.kp T.b_is_whole .nil pass0 (@pa_c _ _ _ _ _ (@pvN _ 0 _ _ (by rfl) (by first | exact Or.inl rfl | exact Or.inr (Or.inl rfl) | exact Or.inr (Or.inr rfl)) (by decide) (by decide)) (@pa_nil _) (by rfl)) (by decide) (by rfl) (by rfl)) (@pe_one _ _ _ _ _ (@pe_chainN _ _ _ _ _ _ _ _ _ _ _ _ on_le on_lt (@pe_int _ _ _ _) (@pvN _ 0 _ _ (by rfl) (by first | exact Or.inl rfl | exact Or.inr (Or.inl rfl) | exact Or.inr (Or.inr rfl)) (by decide) (by decide)) (@pvN _ 1 _ _ (by rfl) (by first | exact Or.inl rfl | exact Or.inr (Or.inl rfl) | exact Or.inr (Or.inr rfl)) (by decide) (by decide)) (by rfl)))))), ?_⟩
    rw [show start ["thing", "bound"] [x, .int b] = [some (x), some (.int b)] from rfl]
    cases x with
    | int i =>
      cases hw
      have k' : Q (.bl (decide (0 ≤ i) && decide (i < b))) H := k
      clear k h
      by_cases h0 : 0 ≤ i
      · rw [decide_eq_true h0, Bool.true_and] at k'
        simp_all (failIfUnchanged := false) only [↓c_spWhole]
      · rw [decide_eq_false h0, Bool.false_and] at k'
        simp_all (failIfUnchanged := false) only [↓c_spWhole]
    | bl i => cases hw; have k' : Q (.bl false) H := k; clear k h; simp_all (failIfUnchanged := false) only [↓c_spWhole]
    | non => cases hw; have k' : Q (.bl false) H := k; clear k h; simp_all (failIfUnchanged := false) only [↓c_spWhole]
    | str i => cases hw; have k' : Q (.bl false) H := k; clear k h; simp_all (failIfUnchanged := false) only [↓c_spWhole]
    | ref p =>
      obtain ⟨rfl, o, ho, ht⟩ := isW_obj hw
      have k' : Q (.bl false) H := k
      clear k h
      simp_all (failIfUnchanged := false) only [↓c_spWhole]
    | _ => cases hw
theorem ok_TooMany___init__ (T : Tx K mg t) : FnOk P w K mg base CX0 1 t.a_TooMany___init__ t.d_TooMany___init__ ["self", "number"] (spX1 t.a_TooMany "number") := by
  refine T.F_TooMany___init__.ok c_TooMany___init__ (fun vs H Q E h => l_spX1 _ _ h) (fun cdv A outer s H vs Q E hr h => ?_)
  · obtain ⟨e, x, rfl, he, k⟩ := h
    refine ⟨_, (@pss_cons _ _ _ _ _ (@ps_expr _ _ _ _ (@pe_xinit _ _ _ _ _ _ _ _ _ _ (by rfl) T.m_PaceError T.bi_PaceError (@pa_c _ _ _ _ _ (@pvN _ 0 _ _ (by rfl) (by first | exact Or.inl rfl | exact Or.inr (Or.inl rfl) | exact Or.inr (Or.inr rfl)) (by decide) (by decide)) (@pa_c _ _ _ _ _ (@pvN _ 1 _ _ (by rfl) (by first | exact Or.inl rfl | exact Or.inr (Or.inl rfl) | exact Or.inr (Or.inr rfl)) (by decide) (by decide)) (@pa_nil _) (by rfl)) (by rfl)) (by decide) (by rfl) (by rfl) (by rfl)) (by rfl)) (@pss_one _ _ _ (@ps_xset _ _ _ _ _ _ _ _ (@pvN _ 0 _ _ (by rfl) (by first | exact Or.inl rfl | exact Or.inr (Or.inl rfl) | exact Or.inr (Or.inr rfl)) (by decide) (by decide)) (@pvN _ 1 _ _ (by rfl) (by first | exact Or.inl rfl | exact Or.inr (Or.inl rfl) | exact Or.inr (Or.inr rfl)) (by decide) (by decide)) rfl))), ?_⟩
    rw [show start ["self", "number"] [.ref e, x] = [some (.ref e), some (x)] from rfl]
    simp_all (failIfUnchanged := false) only [and_true]
    refine ⟨e, _, _, _, [x], rfl, he, T.oi_TooMany, (show 1 ≤ sizeLine by decide), ?_⟩
    simp_all (failIfUnchanged := false) only [and_true]
    exact ⟨e, _, rfl, he, T.oi_TooMany.st, T.tk_TooMany_number, fun dx H' h1 h2 h3 h4 h5 => k dx H' h1 h2 h3 h4 h5⟩
def spLong (cT : Addr) : Sp := fun vs H Q E => ∃ (n : Int), vs = [.int n] ∧ ((n ≤ 4096 → Q .non H) ∧ (4096 < n → ∀ dx H', Ext H H' → H' dx = some (.xd [("number", .int n)]) → E (.ref cT) (some dx) H'))
theorem c_spLong (cT : Addr) (n : Int) (H : Hp) (Q : VK) (E : XK) : spLong cT [.int n] H Q E = ((n ≤ 4096 → Q .non H) ∧ (4096 < n → ∀ dx H', Ext H H' → H' dx = some (.xd [("number", .int n)]) → E (.ref cT) (some dx) H')) := spx1 (f := fun (n : Int) => [.int n]) (fun _ _ h => by cases h; exact rfl) n
theorem l_spLong (cT : Addr) {vs : List V} {H : Hp} {Q : VK} {E : XK} (h : spLong cT vs H Q E) : vs.length = 1 := spl1 h fun _ => rfl
theorem ok_refuse_long (T : Tx K mg t) : FnOk P w K mg base (CX1 P w) 3 t.a_refuse_long t.d_refuse_long ["count"] (spLong t.a_TooMany) := by
  have G_TooMany___init__ := ok_TooMany___init__ (P := P) (w := w) (base := base) T
  refine T.F_refuse_long.ok c_refuse_long (fun vs H Q E h => l_spLong _ h) (fun cdv A outer s H vs Q E hr h => ?_)
  · obtain ⟨n, rfl, k1, k2⟩ := h
    refine ⟨_, (@pss_one _ _ _ (@ps_if _ _ _ _ _ _ _ _ (@pt_cmpRN _ _ _ _ _ _ _ _ on_gt (@pvN _ 0 _ _ (by rfl) (by first | exact Or.inl rfl | exact Or.inr (Or.inl rfl) | exact Or.inr (Or.inr rfl)) (by decide) (by decide)) (@pe_glob _ _ (.int 4096) _ _ (by rfl) T.m_MOST_TOLD.choose_spec ⟨_, rfl⟩ (by decide)) (nomark _)) (@pss_one _ _ _ (@ps_raiseI _ _ _ _ _ _ _ _ _ _ _ _ _ _ _ rfl (by rfl) T.m_TooMany T.oi_TooMany G_TooMany___init__ (hr.mono (by decide)) T.b_TooMany___init__ (fun σ => raisesD_def) (@pa_c _ _ _ _ _ (@pvN _ 0 _ _ (by rfl) (by first | exact Or.inl rfl | exact Or.inr (Or.inl rfl) | exact Or.inr (Or.inr rfl)) (by decide) (by decide)) (@pa_nil _) (by rfl)) (by rfl) (by rfl) (by decide))) (@pss_nil _))), ?_⟩
    rw [show start ["count"] [.int n] = [some (.int n)] from rfl]
    by_cases hn : 4096 < n
    · have k2' := k2 hn
      clear k1 k2
      simp_all (failIfUnchanged := false) only [and_true]
      exact kRI_x1 k2'
    · have k1' := k1 (by omega)
      clear k1 k2
      simp_all (failIfUnchanged := false) only [and_true]
def spDigits  : Sp := fun vs H Q E => ∃ (n : Int) (b : Int) (m : Int), vs = [.int n, .int b, .int m] ∧ (1 ≤ b ∧ b ≤ 1000 ∧ 0 ≤ m ∧ m ≤ 8 ∧ ∀ (ds : List Int) (r : Addr) (H' : Hp), H r = none → Ext H H' → H' r = some (.lst (ds.map V.int)) → (ds.length : Int) = m → (∀ d ∈ ds, 0 ≤ d ∧ d < b) → Q (.ref r) H')
theorem c_spDigits  (n : Int) (b : Int) (m : Int) (H : Hp) (Q : VK) (E : XK) : spDigits  [.int n, .int b, .int m] H Q E = (1 ≤ b ∧ b ≤ 1000 ∧ 0 ≤ m ∧ m ≤ 8 ∧ ∀ (ds : List Int) (r : Addr) (H' : Hp), H r = none → Ext H H' → H' r = some (.lst (ds.map V.int)) → (ds.length : Int) = m → (∀ d ∈ ds, 0 ≤ d ∧ d < b) → Q (.ref r) H') := spx3 (f := fun (n : Int) (b : Int) (m : Int) => [.int n, .int b, .int m]) (fun _ _ _ _ _ _ h => by cases h; exact ⟨rfl, rfl, rfl⟩) n b m
theorem l_spDigits  {vs : List V} {H : Hp} {Q : VK} {E : XK} (h : spDigits  vs H Q E) : vs.length = 3 := spl3 h fun _ _ _ => rfl
theorem ok__law_digits (T : Tx K mg t) : FnOk P w K mg base CX0 1 t.a__law_digits t.d__law_digits ["_law_number", "_law_by", "_law_many_here"] spDigits := by
  refine T.F__law_digits.ok c__law_digits (fun vs H Q E h => l_spDigits h) (fun cdv A outer s H vs Q E hr h => ?_)
  · obtain ⟨n, b, m, rfl, hb, hb1, hm0, hm1, k⟩ := h
    refine ⟨_, (@pss_cons _ _ _ _ _ (@ps_set _ _ (3) _ _ _ _ c__law_digits.nd rfl (Or.inl rfl) (@pe_qLst _ _ _ _ (@pa_nil _)) (by rfl) (by first | exact .inl rfl | exact .inr rfl | assumption)) (@pss_cons _ _ _ _ _ (@ps_for _ _ _ _ _ _ _ _ PassesOwn.never rfl (@pi_range1 _ _ _ _ _ _ (by rfl) T.z_range (@pa_c _ _ _ _ _ (@pvN _ 2 _ _ (by rfl) (by first | exact Or.inl rfl | exact Or.inr (Or.inl rfl) | exact Or.inr (Or.inr rfl)) (by decide) (by decide)) (@pa_nil _) (by rfl)) (by rfl)) (@pg_name _ _ (4) _ c__law_digits.nd rfl (Or.inl rfl) (by first | exact .inl rfl | exact .inr rfl | assumption)) (@pss_cons _ _ _ _ _ (@ps_expr _ _ _ _ (@pe_bm _ _ _ _ _ _ _ _ _ _ _ _ PySem.F.plainAttrs_list PySem.F.slot_list_append PySem.F.type_list_append mt_append (@pvN _ 3 _ _ (by rfl) (by first | exact Or.inl rfl | exact Or.inr (Or.inl rfl) | exact Or.inr (Or.inr rfl)) (by decide) (by decide)) (@pa_c _ _ _ _ _ (@pe_op _ _ _ _ _ _ _ _ on_mod (@pvN _ 0 _ _ (by rfl) (by first | exact Or.inl rfl | exact Or.inr (Or.inl rfl) | exact Or.inr (Or.inr rfl)) (by decide) (by decide)) (@pvN _ 1 _ _ (by rfl) (by first | exact Or.inl rfl | exact Or.inr (Or.inl rfl) | exact Or.inr (Or.inr rfl)) (by decide) (by decide))) (@pa_nil _) (by rfl)) (by rfl) (by rfl) (by rfl) (by rfl) (by rfl)) (by rfl)) (@pss_one _ _ _ (@ps_set _ _ (0) _ _ _ _ c__law_digits.nd rfl (Or.inl rfl) (@pe_op _ _ _ _ _ _ _ _ on_fdiv (@pvN _ 0 _ _ (by rfl) (by first | exact Or.inl rfl | exact Or.inr (Or.inl rfl) | exact Or.inr (Or.inr rfl)) (by decide) (by decide)) (@pvN _ 1 _ _ (by rfl) (by first | exact Or.inl rfl | exact Or.inr (Or.inl rfl) | exact Or.inr (Or.inr rfl)) (by decide) (by decide))) (by rfl) (by first | exact .inl rfl | exact .inr rfl | assumption)))) (by intros; rfl)) (@pss_one _ _ _ (@ps_ret _ _ _ _ (@pvN _ 3 _ _ (by rfl) (by first | exact Or.inl rfl | exact Or.inr (Or.inl rfl) | exact Or.inr (Or.inr rfl)) (by decide) (by decide)))))), ?_⟩
    rw [show start ["_law_number", "_law_by", "_law_many_here", "_law_found", "_law_k"] [.int n, .int b, .int m] = [some (.int n), some (.int b), some (.int m), none, none] from rfl]
    have hb0 : 0 < b := by omega
    simp_all (failIfUnchanged := false) only [and_true]
    intro r H1 hr1 e1 h1
    simp_all (failIfUnchanged := false) only [and_true]
    refine ⟨by omega, by omega, ?_⟩
    refine for_rng (fun i σ H' => ∃ (x : Int) (ds : List Int) (v4 : Option V), σ = [some (.int x), some (.int b), some (.int m), some (.ref r), v4] ∧ Ext H H' ∧ H' r = some (.lst (ds.map V.int)) ∧ ds.length = i ∧ ∀ d ∈ ds, 0 ≤ d ∧ d < b) ⟨n, [], none, rfl, e1, h1, rfl, fun _ h => absurd h List.not_mem_nil⟩ ?_ ?_
    · rintro i _ H2 hi ⟨x, ds, v4, rfl, e2, h2, hdl, hdb⟩
      have hi' : i < m.toNat := hi
      have g1 := Int.emod_nonneg x (show b ≠ 0 by omega)
      have g2 := Int.emod_lt_of_pos x hb0
      have hln : ds.length < sizeLine := lt5000 (by omega)
      replace hdb := fun (_ : Unit) => hdb
      clear hi k
      simp_all (failIfUnchanged := false) only [↓m_kBody]
      refine ⟨lt5000 (by omega), by omega, x / b, ds ++ [x % b], _, rfl, e2.put hr1, by rw [List.map_append]; rfl, by simp [hdl], fun d hd => ?_⟩
      rcases List.mem_append.mp hd with h | h
      · exact hdb () d h
      · rw [List.mem_singleton.mp h]; exact ⟨g1, g2⟩
    · rintro _ H2 ⟨x, ds, v4, rfl, e2, h2, hdl, hdb⟩
      have k1 := k ds r H2 hr1 e2 h2 (by omega) hdb
      clear k hdb
      simp_all (failIfUnchanged := false) only [and_true]
def spMany  : Sp := fun vs H Q E => ∃ (p : Addr), vs = [.ref p] ∧ (∃ ns : List Int, H p = some (.lst (ns.map V.int)) ∧ (∀ n ∈ ns, 1 ≤ n ∧ n ≤ 1000000000) ∧ Q (.int (prodL ns)) H)
theorem c_spMany  (p : Addr) (H : Hp) (Q : VK) (E : XK) : spMany  [.ref p] H Q E = (∃ ns : List Int, H p = some (.lst (ns.map V.int)) ∧ (∀ n ∈ ns, 1 ≤ n ∧ n ≤ 1000000000) ∧ Q (.int (prodL ns)) H) := spx1 (f := fun (p : Addr) => [.ref p]) (fun _ _ h => by cases h; exact rfl) p
theorem l_spMany  {vs : List V} {H : Hp} {Q : VK} {E : XK} (h : spMany  vs H Q E) : vs.length = 1 := spl1 h fun _ => rfl
theorem ok__law_many (T : Tx K mg t) : FnOk P w K mg base CX0 1 t.a__law_many t.d__law_many ["_law_sizes"] spMany := by
  refine T.F__law_many.ok c__law_many (fun vs H Q E h => l_spMany h) (fun cdv A outer s H vs Q E hr h => ?_)
  · obtain ⟨p, rfl, ns, hp, hn, k⟩ := h
    refine ⟨_, (@pss_cons _ _ _ _ _ (@ps_set _ _ (1) _ _ _ _ c__law_many.nd rfl (Or.inl rfl) (@pe_int _ _ _ _) (by rfl) (by first | exact .inl rfl | exact .inr rfl | assumption)) (@pss_cons _ _ _ _ _ (@ps_for _ _ _ _ _ _ _ _ PassesOwn.never rfl (@pi_seq _ _ _ _ (@pvN _ 0 _ _ (by rfl) (by first | exact Or.inl rfl | exact Or.inr (Or.inl rfl) | exact Or.inr (Or.inr rfl)) (by decide) (by decide))) (@pg_name _ _ (2) _ c__law_many.nd rfl (Or.inl rfl) (by first | exact .inl rfl | exact .inr rfl | assumption)) (@pss_one _ _ _ (@ps_set _ _ (1) _ _ _ _ c__law_many.nd rfl (Or.inl rfl) (@pe_op _ _ _ _ _ _ _ _ on_mul (@pvN _ 1 _ _ (by rfl) (by first | exact Or.inl rfl | exact Or.inr (Or.inl rfl) | exact Or.inr (Or.inr rfl)) (by decide) (by decide)) (@pvN _ 2 _ _ (by rfl) (by first | exact Or.inl rfl | exact Or.inr (Or.inl rfl) | exact Or.inr (Or.inr rfl)) (by decide) (by decide))) (by rfl) (by first | exact .inl rfl | exact .inr rfl | assumption))) (by intros; rfl)) (@pss_one _ _ _ (@ps_ret _ _ _ _ (@pvN _ 1 _ _ (by rfl) (by first | exact Or.inl rfl | exact Or.inr (Or.inl rfl) | exact Or.inr (Or.inr rfl)) (by decide) (by decide)))))), ?_⟩
    rw [show start ["_law_sizes", "_law_count", "_law_size"] [.ref p] = [some (.ref p), none, none] from rfl]
    simp_all (failIfUnchanged := false) only [and_true]
    refine for_lst (xs := ns.map V.int) (fun i σ H' => ∃ v : Option V, σ = [some (.ref p), some (.int (prodL (ns.take i))), v] ∧ H' = H) ⟨none, by simp [prodL], rfl⟩ (fun i σ H' _ ⟨_, _, e⟩ => by rw [e]; exact hp) ?_ ?_
    · rintro i y _ _ hi ⟨v, rfl, rfl⟩
      rename_i H
      rw [List.getElem?_map] at hi
      obtain ⟨z, hz, rfl⟩ := Option.map_eq_some_iff.mp hi
      have e' := prodL_take ns i z hz
      have b2 := hn z (List.mem_of_getElem? hz)
      have hcm : CMul (prodL (ns.take i)) z := .inr (by omega)
      clear hi k hn
      simp_all (failIfUnchanged := false) only [↓m_kBody]
      exact ⟨_, rfl⟩
    · rintro _ _ ⟨v, rfl, rfl⟩
      rename_i H
      have e2 : prodL (ns.take (ns.map V.int).length) = prodL ns := by rw [List.length_map, List.take_length]
      rw [e2]
      clear hn
      simp_all (failIfUnchanged := false) only [and_true]
def OrdOk (os : List (Int × Int)) (n : Nat) : Prop := os.length = n ∧ (os.map fun o => o.1).Perm ((List.range n).map fun (i : Nat) => (i : Int)) ∧ ∀ o ∈ os, o.2 = 1 ∨ o.2 = -1
def spOrder (K : PySem.W.Frag) (a : Addr) (ns : List Int) : Sp := fun vs H Q E => ∃ (p : Addr) (at' : Int) (n : Int), vs = [.ref p, .int at', .int n] ∧ (p = a ∧ SqL K H a (ns.map V.int) ∧ ns.length ≤ 63 ∧ 0 ≤ at' ∧ at' < 900 ∧ 0 ≤ n ∧ n ≤ 8 ∧ ∀ (os : List (Int × Int)) (r : Addr) (H' : Hp), H r = none → Ext H H' → TupsAt H' r (os.map fun o => [o.1, o.2]) → OrdOk os n.toNat → Q (.ref r) H')
theorem c_spOrder (K : PySem.W.Frag) (a : Addr) (ns : List Int) (p : Addr) (at' : Int) (n : Int) (H : Hp) (Q : VK) (E : XK) : spOrder K a ns [.ref p, .int at', .int n] H Q E = (p = a ∧ SqL K H a (ns.map V.int) ∧ ns.length ≤ 63 ∧ 0 ≤ at' ∧ at' < 900 ∧ 0 ≤ n ∧ n ≤ 8 ∧ ∀ (os : List (Int × Int)) (r : Addr) (H' : Hp), H r = none → Ext H H' → TupsAt H' r (os.map fun o => [o.1, o.2]) → OrdOk os n.toNat → Q (.ref r) H') := spx3 (f := fun (p : Addr) (at' : Int) (n : Int) => [.ref p, .int at', .int n]) (fun _ _ _ _ _ _ h => by cases h; exact ⟨rfl, rfl, rfl⟩) p at' n
theorem l_spOrder (K : PySem.W.Frag) (a : Addr) (ns : List Int) {vs : List V} {H : Hp} {Q : VK} {E : XK} (h : spOrder K a ns vs H Q E) : vs.length = 3 := spl3 h fun _ _ _ => rfl
theorem erase_ints : ∀ (xs : List Int) (k : Nat), (xs.map V.int).eraseIdx k = (xs.eraseIdx k).map V.int
  | [], k => by cases k <;> rfl
  | x :: xs, 0 => rfl
  | x :: xs, k + 1 => congrArg (V.int x :: ·) (erase_ints xs k)
theorem erase_perm : ∀ {xs : List Int} {k : Nat} {x : Int}, xs[k]? = some x → (x :: xs.eraseIdx k).Perm xs
  | [], k, x, h => by simp at h
  | y :: xs, 0, x, h => by cases h; exact List.Perm.refl _
  | y :: xs, k + 1, x, h => (List.Perm.swap y x _).trans ((erase_perm (xs := xs) (k := k) (by simpa using h)).cons y)
theorem al_two {H : Hp} {os : List (Int × Int)} {us : List V} (al : Al (fun z y => axP z y H) os us) : Al (TupV H) (os.map fun o => [o.1, o.2]) us := by
  refine ⟨by rw [al.1, List.length_map], fun i z y hz hy => ?_⟩
  rw [List.getElem?_map] at hz
  obtain ⟨a, ha, rfl⟩ := Option.map_eq_some_iff.mp hz
  exact al.2 i a y ha hy
theorem ok__law_order (T : Tx K mg t) (a : Addr) (ns : List Int) : FnOk P w K mg base CX0 2 t.a__law_order t.d__law_order ["_law_script", "_law_at", "_law_axes"] (spOrder K a ns) := by
  have G__law_draw := ok__law_draw (P := P) (w := w) (base := base) T a ns
  have G__law_digits := ok__law_digits (P := P) (w := w) (base := base) T
  refine T.F__law_order.ok c__law_order (fun vs H Q E h => l_spOrder _ _ _ h) (fun cdv A outer s H vs Q E hr h => ?_)
  · obtain ⟨_, at', n, rfl, rfl, hS, hl, ha0, ha1, hn0, hn1, kk⟩ := h
    rename_i a
    refine ⟨_, (@pss_cons _ _ _ _ _ (@ps_set _ _ (3) _ _ _ _ c__law_order.nd rfl (Or.inl rfl) (@pe_call _ _ _ _ _ _ _ _ _ _ _ _ _ _ _ _ G__law_draw (hr.mono (by decide)) (by rfl) T.m__law_draw T.F__law_draw.kp T.b__law_draw .nil pass0 (@pa_c _ _ _ _ _ (@pvN _ 0 _ _ (by rfl) (by first | exact Or.inl rfl | exact Or.inr (Or.inl rfl) | exact Or.inr (Or.inr rfl)) (by decide) (by decide)) (@pa_c _ _ _ _ _ (@pvN _ 1 _ _ (by rfl) (by first | exact Or.inl rfl | exact Or.inr (Or.inl rfl) | exact Or.inr (Or.inr rfl)) (by decide) (by decide)) (@pa_c _ _ _ _ _ (@pe_int _ _ _ _) (@pa_nil _) (by rfl)) (by rfl)) (by rfl)) (by decide) (by rfl) (by rfl)) (by rfl) (by first | exact .inl rfl | exact .inr rfl | assumption)) (@pss_cons _ _ _ _ _ (@ps_set _ _ (4) _ _ _ _ c__law_order.nd rfl (Or.inl rfl) (@pe_call _ _ _ _ _ _ _ _ _ _ _ _ _ _ _ _ G__law_digits (hr.mono (by decide)) (by rfl) T.m__law_digits T.F__law_digits.kp T.b__law_digits .nil pass0 (@pa_c _ _ _ _ _ (@pe_call _ _ _ _ _ _ _ _ _ _ _ _ _ _ _ _ G__law_draw (hr.mono (by decide)) (by rfl) T.m__law_draw T.F__law_draw.kp T.b__law_draw .nil pass0 (@pa_c _ _ _ _ _ (@pvN _ 0 _ _ (by rfl) (by first | exact Or.inl rfl | exact Or.inr (Or.inl rfl) | exact Or.inr (Or.inr rfl)) (by decide) (by decide)) (@pa_c _ _ _ _ _ (@pe_op _ _ _ _ _ _ _ _ on_add (@pvN _ 1 _ _ (by rfl) (by first | exact Or.inl rfl | exact Or.inr (Or.inl rfl) | exact Or.inr (Or.inr rfl)) (by decide) (by decide)) (@pe_int _ _ _ _)) (@pa_c _ _ _ _ _ (@pe_int _ _ _ _) (@pa_nil _) (by rfl)) (by rfl)) (by rfl)) (by decide) (by rfl) (by rfl)) (@pa_c _ _ _ _ _ (@pe_int _ _ _ _) (@pa_c _ _ _ _ _ (@pvN _ 2 _ _ (by rfl) (by first | exact Or.inl rfl | exact Or.inr (Or.inl rfl) | exact Or.inr (Or.inr rfl)) (by decide) (by decide)) (@pa_nil _) (by rfl)) (by rfl)) (by rfl)) (by decide) (by rfl) (by rfl)) (by rfl) (by first | exact .inl rfl | exact .inr rfl | assumption)) (@pss_cons _ _ _ _ _ (@ps_set _ _ (5) _ _ _ _ c__law_order.nd rfl (Or.inl rfl) (@pe_listrange _ _ _ _ _ _ _ rfl (by rfl) T.z_list (by rfl) T.z_range (@pa_c _ _ _ _ _ (@pvN _ 2 _ _ (by rfl) (by first | exact Or.inl rfl | exact Or.inr (Or.inl rfl) | exact Or.inr (Or.inr rfl)) (by decide) (by decide)) (@pa_nil _) (by rfl)) (by rfl) (by rfl) (by rfl)) (by rfl) (by first | exact .inl rfl | exact .inr rfl | assumption)) (@pss_cons _ _ _ _ _ (@ps_set _ _ (6) _ _ _ _ c__law_order.nd rfl (Or.inl rfl) (@pe_qLst _ _ _ _ (@pa_nil _)) (by rfl) (by first | exact .inl rfl | exact .inr rfl | assumption)) (@pss_cons _ _ _ _ _ (@ps_while _ _ _ _ _ _ PassesOwn.never (@pt_cmpRN _ _ _ _ _ _ _ _ (op_qNe hr.units) (@pvN _ 5 _ _ (by rfl) (by first | exact Or.inl rfl | exact Or.inr (Or.inl rfl) | exact Or.inr (Or.inr rfl)) (by decide) (by decide)) (@pe_qLst _ _ _ _ (@pa_nil _)) (nomark _)) (@pss_cons _ _ _ _ _ (@ps_set _ _ (7) _ _ _ _ c__law_order.nd rfl (Or.inl rfl) (@pe_bm _ _ _ _ _ _ _ _ _ _ _ _ PySem.F.plainAttrs_list PySem.F.slot_list_pop PySem.F.type_list_pop mt_nPopAt (@pvN _ 5 _ _ (by rfl) (by first | exact Or.inl rfl | exact Or.inr (Or.inl rfl) | exact Or.inr (Or.inr rfl)) (by decide) (by decide)) (@pa_c _ _ _ _ _ (@pe_op _ _ _ _ _ _ _ _ on_mod (@pvN _ 3 _ _ (by rfl) (by first | exact Or.inl rfl | exact Or.inr (Or.inl rfl) | exact Or.inr (Or.inr rfl)) (by decide) (by decide)) (@pe_callB _ _ _ _ _ _ _ ("len") _ call_qLen (by rfl) T.z_len (by decide +kernel) (@pa_c _ _ _ _ _ (@pvN _ 5 _ _ (by rfl) (by first | exact Or.inl rfl | exact Or.inr (Or.inl rfl) | exact Or.inr (Or.inr rfl)) (by decide) (by decide)) (@pa_nil _) (by rfl)) (by decide) (by decide) (by rfl) (by rfl))) (@pa_nil _) (by rfl)) (by rfl) (by rfl) (by rfl) (by rfl) (by rfl)) (by rfl) (by first | exact .inl rfl | exact .inr rfl | assumption)) (@pss_cons _ _ _ _ _ (@ps_set _ _ (3) _ _ _ _ c__law_order.nd rfl (Or.inl rfl) (@pe_op _ _ _ _ _ _ _ _ on_fdiv (@pvN _ 3 _ _ (by rfl) (by first | exact Or.inl rfl | exact Or.inr (Or.inl rfl) | exact Or.inr (Or.inr rfl)) (by decide) (by decide)) (@pe_op _ _ _ _ _ _ _ _ on_add (@pe_callB _ _ _ _ _ _ _ ("len") _ call_qLen (by rfl) T.z_len (by decide +kernel) (@pa_c _ _ _ _ _ (@pvN _ 5 _ _ (by rfl) (by first | exact Or.inl rfl | exact Or.inr (Or.inl rfl) | exact Or.inr (Or.inr rfl)) (by decide) (by decide)) (@pa_nil _) (by rfl)) (by decide) (by decide) (by rfl) (by rfl)) (@pe_int _ _ _ _))) (by rfl) (by first | exact .inl rfl | exact .inr rfl | assumption)) (@pss_one _ _ _ (@ps_expr _ _ _ _ (@pe_bm _ _ _ _ _ _ _ _ _ _ _ _ PySem.F.plainAttrs_list PySem.F.slot_list_append PySem.F.type_list_append mt_append (@pvN _ 6 _ _ (by rfl) (by first | exact Or.inl rfl | exact Or.inr (Or.inl rfl) | exact Or.inr (Or.inr rfl)) (by decide) (by decide)) (@pa_c _ _ _ _ _ (@pe_qTup _ _ _ _ _ (@pa_c _ _ _ _ _ (@pvN _ 7 _ _ (by rfl) (by first | exact Or.inl rfl | exact Or.inr (Or.inl rfl) | exact Or.inr (Or.inr rfl)) (by decide) (by decide)) (@pa_c _ _ _ _ _ (@pe_ix _ _ _ _ _ _ _ ix_q (@pe_qLst _ _ _ _ (@pa_c _ _ _ _ _ (@pe_int _ _ _ _) (@pa_c _ _ _ _ _ (@pe_un _ _ _ _ _ _ un_negN (@pe_int _ _ _ _)) (@pa_nil _) (by rfl)) (by rfl))) (@pe_ix _ _ _ _ _ _ _ ix_q (@pvN _ 4 _ _ (by rfl) (by first | exact Or.inl rfl | exact Or.inr (Or.inl rfl) | exact Or.inr (Or.inr rfl)) (by decide) (by decide)) (@pvN _ 7 _ _ (by rfl) (by first | exact Or.inl rfl | exact Or.inr (Or.inl rfl) | exact Or.inr (Or.inr rfl)) (by decide) (by decide)) (fun _ _ => rfl)) (fun _ _ => rfl)) (@pa_nil _) (by rfl)) (by rfl))) (@pa_nil _) (by rfl)) (by rfl) (by rfl) (by rfl) (by rfl) (by rfl)) (by rfl)))))) (@pss_one _ _ _ (@ps_ret _ _ _ _ (@pvN _ 6 _ _ (by rfl) (by first | exact Or.inl rfl | exact Or.inr (Or.inl rfl) | exact Or.inr (Or.inr rfl)) (by decide) (by decide))))))))), ?_⟩
    rw [show start ["_law_script", "_law_at", "_law_axes", "_law_turn", "_law_ways", "_law_left", "_law_order_here", "_law_axis"] [.ref a, .int at', .int n] = [some (.ref a), some (.int at'), some (.int n), none, none, none, none, none] from rfl]
    clear G__law_draw G__law_digits
    simp_all (failIfUnchanged := false) only [and_true]
    rw [c_spDraw]
    refine ⟨hS, hl, (by omega), by decide, fun tn t0 t1 => ?_⟩
    simp_all (failIfUnchanged := false) only [and_true]
    rw [c_spDraw]
    refine ⟨hS, hl, (by omega), by decide, fun c c0 c1 => ?_⟩
    simp_all (failIfUnchanged := false) only [and_true]
    rw [c_spDigits]
    refine ⟨by decide, by decide, hn0, hn1, fun ds d H1 hd1 e1 h1 hdl hdb => ?_⟩
    simp_all (failIfUnchanged := false) only [and_true]
    rw [x_kLR]
    refine ⟨hn0, by omega, ?_⟩
    intro lf H2 hlf e2 h2
    have h1_2 := e2.at h1
    simp_all (failIfUnchanged := false) only [and_true]
    intro r H3 hr3 e3 h3
    have h1_3 := e3.at h1_2
    have h2_3 := e3.at h2
    have hlr : lf ≠ r := fun z => by rw [← z, h2] at hr3; cases hr3
    have hdl' : d ≠ lf := fun z => by rw [← z, h1] at hlf; cases hlf
    have hdr : d ≠ r := fun z => by rw [← z, h1_2] at hr3; cases hr3
    have hlf0 : H lf = none := e1.free hlf
    have hr0 : H r = none := e1.free (e2.free hr3)
    have e03 := e1.trans (e2.trans e3)
    have hrng : rngV n = ((List.range n.toNat).map fun (i : Nat) => (i : Int)).map V.int := by unfold rngV; rw [List.map_map]; rfl
    rw [hrng] at h2_3
    have hRm : ∀ x ∈ (List.range n.toNat).map fun (i : Nat) => (i : Int), 0 ≤ x ∧ x < n := fun x hx => by
      obtain ⟨i, hi, rfl⟩ := List.mem_map.mp hx
      have := List.mem_range.mp hi
      omega
    have hRl : ((List.range n.toNat).map fun (i : Nat) => (i : Int)).length = n.toNat := by rw [List.length_map, List.length_range]
    unfold OrdOk at kk
    generalize ((List.range n.toNat).map fun (i : Nat) => (i : Int)) = R at h2_3 hRm hRl kk
    clear h1 h1_2 h2 hrng
    simp_all (failIfUnchanged := false) only [and_true]
    refine while_w (by repeat' first | exact mo_tV | exact mo_nI0 | exact mo_nI | apply mo_nTest | apply mo_unN | exact mo_var | exact mo_c | exact mo_rI0 | exact mo_rI | exact mo_rIsN | exact mo_rNotN | exact mo_qEq | exact mo_qIx | exact mo_nil | exact mo_qLen | apply mo_test | apply mo_tB | apply mo_not | apply mo_and | apply mo_or | apply mo_op | apply mo_un | apply mo_cons | apply mo_qLst | apply mo_cb) (fun m σ H' => ∃ (ls : List Int) (os : List (Int × Int)) (tn : Int) (us : List V) (v7 : Option V), σ = [some (.ref a), some (.int at'), some (.int n), some (.int tn), some (.ref d), some (.ref lf), some (.ref r), v7] ∧ m = ls.length ∧ Ext H H' ∧ H' lf = some (.lst (ls.map V.int)) ∧ H' r = some (.lst us) ∧ Al (fun z y => axP z y H') os us ∧ H' d = some (.lst (ds.map V.int)) ∧ 0 ≤ tn ∧ (os.map (fun o => o.1) ++ ls).Perm R ∧ ∀ o ∈ os, o.2 = 1 ∨ o.2 = -1) _ ⟨R, [], tn, [], none, rfl, rfl, e03, h2_3, h3, Al.nil, h1_3, t0, List.Perm.refl _, fun _ h => absurd h List.not_mem_nil⟩ ?_
    rintro m _ H4 ⟨ls, os, tn, us, v7, rfl, rfl, e4, hl4, hr4, al4, hd4, tn0, hpm, hos⟩
    replace hos := fun (_ : Unit) => hos
    replace hRm := fun (_ : Unit) => hRm
    replace hpm := fun (_ : Unit) => hpm
    replace hdb := fun (_ : Unit) => hdb
    cases ls with
    | nil =>
      simp_all (failIfUnchanged := false) only [and_true]
      intro q H5 hq e5 h5
      have hl5 := e5.at hl4
      clear hl4
      have k1 := kk os r H5 hr0 (e4.trans e5) ⟨us, e5.at hr4, al_two (al4.imp fun _ _ z => z.ext e5)⟩ (by
        have := hpm ()
        rw [List.append_nil] at this
        exact ⟨by have := this.length_eq; rw [List.length_map, hRl] at this; exact this, this, hos ()⟩)
      clear kk
      simp_all (failIfUnchanged := false) only [and_true]
    | cons l0 ls =>
      simp_all (failIfUnchanged := false) only [and_true]
      intro q H5 hq e5 h5
      have hl5 := e5.at hl4
      clear hl4
      have hpl : ((os.map fun o => o.1).length + (ls.length + 1)) = n.toNat := by
        have := (hpm ()).length_eq
        rw [List.length_append, List.length_cons, hRl] at this
        exact this
      have i0 := Int.emod_nonneg tn (show ((ls.length + 1 : Nat) : Int) ≠ 0 by omega)
      have i1 := Int.emod_lt_of_pos tn (show (0 : Int) < ((ls.length + 1 : Nat) : Int) by omega)
      simp_all (failIfUnchanged := false) only [and_true]
      generalize hix : (tn % ((ls.length + 1 : Nat) : Int)) = ix at i0 i1 ⊢
      refine ⟨by omega, by omega, ?_⟩
      obtain ⟨x, hx⟩ : ∃ x, (l0 :: ls)[ix.toNat]? = some x := ⟨_, List.getElem?_eq_getElem (by rw [List.length_cons]; omega)⟩
      have hx' : (V.int l0 :: List.map V.int ls)[ix.toNat]? = some (.int x) := by
        show ((l0 :: ls).map V.int)[ix.toNat]? = _
        rw [List.getElem?_map, hx]; rfl
      have hxm : 0 ≤ x ∧ x < n := hRm () x ((hpm ()).mem_iff.mp (List.mem_append_right _ (List.mem_of_getElem? hx)))
      have her : (V.int l0 :: List.map V.int ls).eraseIdx ix.toNat = ((l0 :: ls).eraseIdx ix.toNat).map V.int := by
        rw [show (V.int l0 :: List.map V.int ls) = (l0 :: ls).map V.int from rfl, erase_ints]
      have hle : ((l0 :: ls).eraseIdx ix.toNat).length = ls.length := by rw [List.length_eraseIdx_of_lt (by rw [List.length_cons]; omega)]; rfl
      rw [hx', optK_some, m_kPopA2, her]
      have hpe := erase_perm hx
      generalize (l0 :: ls).eraseIdx ix.toNat = es at hle hpe ⊢
      have hl6 : (upd H5 lf (.lst (es.map V.int))) lf = some (.lst (es.map V.int)) := upd_same
      have hr6 : (upd H5 lf (.lst (es.map V.int))) r = some (.lst us) := by rw [upd_ne (Ne.symm hlr)]; exact e5.at hr4
      have hd6 : (upd H5 lf (.lst (es.map V.int))) d = some (.lst (ds.map V.int)) := by rw [upd_ne hdl']; exact e5.at hd4
      have al6 : Al (fun z y => axP z y (upd H5 lf (.lst (es.map V.int)))) os us := al4.imp fun z y h => by
        obtain ⟨q, rfl, hq⟩ := h
        have hq5 := e5.at hq
        exact ⟨q, rfl, by rw [upd_ne (fun e => by rw [e, hl5] at hq5; cases hq5)]; exact hq5⟩
      have e6 : Ext H (upd H5 lf (.lst (es.map V.int))) := (e4.trans e5).put hlf0
      generalize upd H5 lf (.lst (es.map V.int)) = H6 at hl6 hr6 hd6 al6 e6 ⊢
      obtain ⟨z, hz, hzm⟩ := atI_ints ds x hxm.1 (by omega)
      have hzb := hdb () z hzm
      have hol : us.length ≤ 8 := by
        rw [al6.1]
        rw [List.length_map] at hpl
        omega
      have hul : us.length < sizeLine := lt5000 (by omega)
      clear hl5 hr4 hd4 al4 h5 hx' her hx hix
      simp_all (failIfUnchanged := false) only [and_true]
      refine ⟨(by omega), ?_⟩
      intro w2 H7 hw2 e7 h7
      have hd7 := e7.at hd6
      simp_all (failIfUnchanged := false) only [and_true]
      refine optK_ints (fun j => j = 1 ∨ j = -1) hzb.1 (show z < 2 by omega) (fun v hv => ?_) fun j hj => ?_
      · simp only [List.mem_cons, List.not_mem_nil, or_false] at hv
        rcases hv with rfl | rfl
        · exact ⟨_, rfl, .inl rfl⟩
        · exact ⟨_, rfl, .inr rfl⟩
      replace hj := fun (_ : Unit) => hj
      simp_all (failIfUnchanged := false) only [and_true]
      intro t8 H8 ht8 e8 h8
      have hr8 := (e7.trans e8).at hr6
      have ht8r : t8 ≠ r := fun z => by rw [z, e7.at hr6] at ht8; cases ht8
      simp_all (failIfUnchanged := false) only [and_true]
      refine ⟨es.length, by omega, es, os ++ [(x, j)], _, us ++ [.ref t8], _, rfl, rfl, (e6.trans (e7.trans e8)).put hr0, by rw [upd_ne hlr]; exact (e7.trans e8).at hl6, rfl, Al.snoc (al6.imp fun z y h => ?_) ⟨t8, rfl, by rw [upd_ne ht8r]; exact h8⟩, by rw [upd_ne hdr]; exact e8.at hd7, Int.ediv_nonneg tn0 (by omega), ?_, fun o ho => ?_⟩
      · obtain ⟨q, rfl, hq⟩ := h
        have hq8 := (e7.trans e8).at hq
        exact ⟨q, rfl, by rw [upd_ne (fun e => by rw [e, hr8] at hq8; cases hq8)]; exact hq8⟩
      · rw [List.map_append, List.append_assoc]
        exact (List.Perm.append_left _ hpe).trans (hpm ())
      · rcases List.mem_append.mp ho with h | h
        · exact hos () o h
        · rw [List.mem_singleton.mp h]; exact hj ()
theorem optK_pick {xs : List V} {i : Int} {k : V → Prop} (P : V → Prop) (h0 : 0 ≤ i) (h1 : i < xs.length) (ha : ∀ v ∈ xs, P v) (hk : ∀ v, P v → k v) : optK (atI xs i) k := optK_at h0 h1 fun v hv => hk v (ha v hv)
def SzOk (ms : List Int) : Prop := ms.length ≤ 8 ∧ (∀ m ∈ ms, 1 ≤ m ∧ m ≤ 4096) ∧ prodL ms ≤ 4096
def spSome (K : PySem.W.Frag) (a : Addr) (ns : List Int) : Sp := fun vs H Q E => ∃ (p : Addr), vs = [.ref p] ∧ (p = a ∧ SqL K H a (ns.map V.int) ∧ ns.length ≤ 63 ∧ ∀ (ms : List Int) (r : Addr) (H' : Hp), Ext H H' → H' r = some (.lst (ms.map V.int)) → SzOk ms → Q (.ref r) H')
theorem c_spSome (K : PySem.W.Frag) (a : Addr) (ns : List Int) (p : Addr) (H : Hp) (Q : VK) (E : XK) : spSome K a ns [.ref p] H Q E = (p = a ∧ SqL K H a (ns.map V.int) ∧ ns.length ≤ 63 ∧ ∀ (ms : List Int) (r : Addr) (H' : Hp), Ext H H' → H' r = some (.lst (ms.map V.int)) → SzOk ms → Q (.ref r) H') := spx1 (f := fun (p : Addr) => [.ref p]) (fun _ _ h => by cases h; exact rfl) p
theorem l_spSome (K : PySem.W.Frag) (a : Addr) (ns : List Int) {vs : List V} {H : Hp} {Q : VK} {E : XK} (h : spSome K a ns vs H Q E) : vs.length = 1 := spl1 h fun _ => rfl
theorem ok__law_some_sizes (T : Tx K mg t) (a : Addr) (ns : List Int) : FnOk P w K mg base CX0 2 t.a__law_some_sizes t.d__law_some_sizes ["_law_script"] (spSome K a ns) := by
  have G__law_draw := ok__law_draw (P := P) (w := w) (base := base) T a ns
  have G__law_many := ok__law_many (P := P) (w := w) (base := base) T
  refine T.F__law_some_sizes.ok c__law_some_sizes (fun vs H Q E h => l_spSome _ _ _ h) (fun cdv A outer s H vs Q E hr h => ?_)
  · obtain ⟨_, rfl, rfl, hS, hl, kk⟩ := h
    rename_i a
    refine ⟨_, (@pss_cons _ _ _ _ _ (@ps_if _ _ _ _ _ _ _ _ (@pt_cmpRN _ _ _ _ _ _ _ _ (op_qEq hr.units) (@pe_call _ _ _ _ _ _ _ _ _ _ _ _ _ _ _ _ G__law_draw (hr.mono (by decide)) (by rfl) T.m__law_draw T.F__law_draw.kp T.b__law_draw .nil pass0 (@pa_c _ _ _ _ _ (@pvN _ 0 _ _ (by rfl) (by first | exact Or.inl rfl | exact Or.inr (Or.inl rfl) | exact Or.inr (Or.inr rfl)) (by decide) (by decide)) (@pa_c _ _ _ _ _ (@pe_int _ _ _ _) (@pa_c _ _ _ _ _ (@pe_int _ _ _ _) (@pa_nil _) (by rfl)) (by rfl)) (by rfl)) (by decide) (by rfl) (by rfl)) (@pe_int _ _ _ _) (nomark _)) (@pss_one _ _ _ (@ps_ret _ _ _ _ (@pe_ix _ _ _ _ _ _ _ ix_q (@pe_qLst _ _ _ _ (@pa_c _ _ _ _ _ (@pe_qLst _ _ _ _ (@pa_c _ _ _ _ _ (@pe_int _ _ _ _) (@pa_nil _) (by rfl))) (@pa_c _ _ _ _ _ (@pe_qLst _ _ _ _ (@pa_c _ _ _ _ _ (@pe_int _ _ _ _) (@pa_c _ _ _ _ _ (@pe_int _ _ _ _) (@pa_nil _) (by rfl)) (by rfl))) (@pa_c _ _ _ _ _ (@pe_qLst _ _ _ _ (@pa_c _ _ _ _ _ (@pe_int _ _ _ _) (@pa_c _ _ _ _ _ (@pe_int _ _ _ _) (@pa_nil _) (by rfl)) (by rfl))) (@pa_c _ _ _ _ _ (@pe_qLst _ _ _ _ (@pa_c _ _ _ _ _ (@pe_int _ _ _ _) (@pa_c _ _ _ _ _ (@pe_int _ _ _ _) (@pa_c _ _ _ _ _ (@pe_int _ _ _ _) (@pa_nil _) (by rfl)) (by rfl)) (by rfl))) (@pa_c _ _ _ _ _ (@pe_qLst _ _ _ _ (@pa_c _ _ _ _ _ (@pe_int _ _ _ _) (@pa_c _ _ _ _ _ (@pe_int _ _ _ _) (@pa_c _ _ _ _ _ (@pe_int _ _ _ _) (@pa_c _ _ _ _ _ (@pe_int _ _ _ _) (@pa_nil _) (by rfl)) (by rfl)) (by rfl)) (by rfl))) (@pa_c _ _ _ _ _ (@pe_qLst _ _ _ _ (@pa_c _ _ _ _ _ (@pe_int _ _ _ _) (@pa_c _ _ _ _ _ (@pe_int _ _ _ _) (@pa_nil _) (by rfl)) (by rfl))) (@pa_nil _) (by rfl)) (by rfl)) (by rfl)) (by rfl)) (by rfl)) (by rfl))) (@pe_call _ _ _ _ _ _ _ _ _ _ _ _ _ _ _ _ G__law_draw (hr.mono (by decide)) (by rfl) T.m__law_draw T.F__law_draw.kp T.b__law_draw .nil pass0 (@pa_c _ _ _ _ _ (@pvN _ 0 _ _ (by rfl) (by first | exact Or.inl rfl | exact Or.inr (Or.inl rfl) | exact Or.inr (Or.inr rfl)) (by decide) (by decide)) (@pa_c _ _ _ _ _ (@pe_int _ _ _ _) (@pa_c _ _ _ _ _ (@pe_int _ _ _ _) (@pa_nil _) (by rfl)) (by rfl)) (by rfl)) (by decide) (by rfl) (by rfl)) (fun _ _ => rfl)))) (@pss_nil _)) (@pss_cons _ _ _ _ _ (@ps_set _ _ (1) _ _ _ _ c__law_some_sizes.nd rfl (Or.inl rfl) (@pe_qLst _ _ _ _ (@pa_nil _)) (by rfl) (by first | exact .inl rfl | exact .inr rfl | assumption)) (@pss_cons _ _ _ _ _ (@ps_for _ _ _ _ _ _ _ _ PassesOwn.never rfl (@pi_range1 _ _ _ _ _ _ (by rfl) T.z_range (@pa_c _ _ _ _ _ (@pe_call _ _ _ _ _ _ _ _ _ _ _ _ _ _ _ _ G__law_draw (hr.mono (by decide)) (by rfl) T.m__law_draw T.F__law_draw.kp T.b__law_draw .nil pass0 (@pa_c _ _ _ _ _ (@pvN _ 0 _ _ (by rfl) (by first | exact Or.inl rfl | exact Or.inr (Or.inl rfl) | exact Or.inr (Or.inr rfl)) (by decide) (by decide)) (@pa_c _ _ _ _ _ (@pe_int _ _ _ _) (@pa_c _ _ _ _ _ (@pe_int _ _ _ _) (@pa_nil _) (by rfl)) (by rfl)) (by rfl)) (by decide) (by rfl) (by rfl)) (@pa_nil _) (by rfl)) (by rfl)) (@pg_name _ _ (2) _ c__law_some_sizes.nd rfl (Or.inl rfl) (by first | exact .inl rfl | exact .inr rfl | assumption)) (@pss_cons _ _ _ _ _ (@ps_set _ _ (3) _ _ _ _ c__law_some_sizes.nd rfl (Or.inl rfl) (@pe_ix _ _ _ _ _ _ _ ix_q (@pe_qLst _ _ _ _ (@pa_c _ _ _ _ _ (@pe_int _ _ _ _) (@pa_c _ _ _ _ _ (@pe_int _ _ _ _) (@pa_c _ _ _ _ _ (@pe_int _ _ _ _) (@pa_c _ _ _ _ _ (@pe_int _ _ _ _) (@pa_c _ _ _ _ _ (@pe_int _ _ _ _) (@pa_c _ _ _ _ _ (@pe_int _ _ _ _) (@pa_c _ _ _ _ _ (@pe_int _ _ _ _) (@pa_c _ _ _ _ _ (@pe_int _ _ _ _) (@pa_nil _) (by rfl)) (by rfl)) (by rfl)) (by rfl)) (by rfl)) (by rfl)) (by rfl)) (by rfl))) (@pe_call _ _ _ _ _ _ _ _ _ _ _ _ _ _ _ _ G__law_draw (hr.mono (by decide)) (by rfl) T.m__law_draw T.F__law_draw.kp T.b__law_draw .nil pass0 (@pa_c _ _ _ _ _ (@pvN _ 0 _ _ (by rfl) (by first | exact Or.inl rfl | exact Or.inr (Or.inl rfl) | exact Or.inr (Or.inr rfl)) (by decide) (by decide)) (@pa_c _ _ _ _ _ (@pe_op _ _ _ _ _ _ _ _ on_add (@pe_int _ _ _ _) (@pvN _ 2 _ _ (by rfl) (by first | exact Or.inl rfl | exact Or.inr (Or.inl rfl) | exact Or.inr (Or.inr rfl)) (by decide) (by decide))) (@pa_c _ _ _ _ _ (@pe_int _ _ _ _) (@pa_nil _) (by rfl)) (by rfl)) (by rfl)) (by decide) (by rfl) (by rfl)) (fun _ _ => rfl)) (by rfl) (by first | exact .inl rfl | exact .inr rfl | assumption)) (@pss_cons _ _ _ _ _ (@ps_if _ _ _ _ _ _ _ _ (@pt_cmpRN _ _ _ _ _ _ _ _ on_gt (@pe_op _ _ _ _ _ _ _ _ on_mul (@pe_call _ _ _ _ _ _ _ _ _ _ _ _ _ _ _ _ G__law_many (hr.mono (by decide)) (by rfl) T.m__law_many T.F__law_many.kp T.b__law_many .nil pass0 (@pa_c _ _ _ _ _ (@pvN _ 1 _ _ (by rfl) (by first | exact Or.inl rfl | exact Or.inr (Or.inl rfl) | exact Or.inr (Or.inr rfl)) (by decide) (by decide)) (@pa_nil _) (by rfl)) (by decide) (by rfl) (by rfl)) (@pvN _ 3 _ _ (by rfl) (by first | exact Or.inl rfl | exact Or.inr (Or.inl rfl) | exact Or.inr (Or.inr rfl)) (by decide) (by decide))) (@pe_int _ _ _ _) (nomark _)) (@pss_one _ _ _ (@ps_set _ _ (3) _ _ _ _ c__law_some_sizes.nd rfl (Or.inl rfl) (@pe_int _ _ _ _) (by rfl) (by first | exact .inl rfl | exact .inr rfl | assumption))) (@pss_nil _)) (@pss_one _ _ _ (@ps_expr _ _ _ _ (@pe_bm _ _ _ _ _ _ _ _ _ _ _ _ PySem.F.plainAttrs_list PySem.F.slot_list_append PySem.F.type_list_append mt_append (@pvN _ 1 _ _ (by rfl) (by first | exact Or.inl rfl | exact Or.inr (Or.inl rfl) | exact Or.inr (Or.inr rfl)) (by decide) (by decide)) (@pa_c _ _ _ _ _ (@pvN _ 3 _ _ (by rfl) (by first | exact Or.inl rfl | exact Or.inr (Or.inl rfl) | exact Or.inr (Or.inr rfl)) (by decide) (by decide)) (@pa_nil _) (by rfl)) (by rfl) (by rfl) (by rfl) (by rfl) (by rfl)) (by rfl))))) (by intros; rfl)) (@pss_one _ _ _ (@ps_ret _ _ _ _ (@pvN _ 1 _ _ (by rfl) (by first | exact Or.inl rfl | exact Or.inr (Or.inl rfl) | exact Or.inr (Or.inr rfl)) (by decide) (by decide))))))), ?_⟩
    rw [show start ["_law_script", "_law_sizes", "_law_k", "_law_size"] [.ref a] = [some (.ref a), none, none, none] from rfl]
    clear G__law_draw G__law_many
    simp_all (failIfUnchanged := false) only [and_true]
    rw [c_spDraw]
    refine ⟨hS, hl, (by omega), by decide, fun c c0 c1 => ?_⟩
    by_cases hc : c = 1
    · simp_all (failIfUnchanged := false) only [and_true]
      intro q1 H1 hq1 e1 h1
      simp_all (failIfUnchanged := false) only [and_true]
      intro q2 H2 hq2 e2 h2
      simp_all (failIfUnchanged := false) only [and_true]
      intro q3 H3 hq3 e3 h3
      simp_all (failIfUnchanged := false) only [and_true]
      intro q4 H4 hq4 e4 h4
      simp_all (failIfUnchanged := false) only [and_true]
      intro q5 H5 hq5 e5 h5
      simp_all (failIfUnchanged := false) only [and_true]
      intro q6 H6 hq6 e6 h6
      simp_all (failIfUnchanged := false) only [and_true]
      intro q7 H7 hq7 e7 h7
      have e67 := e6.trans e7
      have e57 := e5.trans e67
      have e47 := e4.trans e57
      have e37 := e3.trans e47
      have e27 := e2.trans e37
      have hS7 := (e1.trans e27).2 K a _ hS
      have g1 := e27.at h1
      have g2 := e37.at h2
      have g3 := e47.at h3
      have g4 := e57.at h4
      have g5 := e67.at h5
      have g6 := e7.at h6
      clear h1 h2 h3 h4 h5 h6
      simp_all (failIfUnchanged := false) only [and_true]
      rw [c_spDraw]
      refine ⟨hS7, hl, (by omega), by decide, fun i i0 i1 => ?_⟩
      simp_all (failIfUnchanged := false) only [and_true]
      refine optK_pick (fun v => ∃ (q : Addr) (ms : List Int), v = .ref q ∧ H7 q = some (.lst (ms.map V.int)) ∧ SzOk ms) i0 (show i < 6 by omega) (fun v hv => ?_) fun v hv => ?_
      · simp only [List.mem_cons, List.not_mem_nil, or_false] at hv
        rcases hv with rfl | rfl | rfl | rfl | rfl | rfl
        · exact ⟨q1, [4096], rfl, g1, by decide, by decide, by decide⟩
        · exact ⟨q2, [64, 64], rfl, g2, by decide, by decide, by decide⟩
        · exact ⟨q3, [1, 4096], rfl, g3, by decide, by decide, by decide⟩
        · exact ⟨q4, [16, 16, 16], rfl, g4, by decide, by decide, by decide⟩
        · exact ⟨q5, [8, 8, 8, 8], rfl, g5, by decide, by decide, by decide⟩
        · exact ⟨q6, [2, 2048], rfl, g6, by decide, by decide, by decide⟩
      · obtain ⟨q, ms, rfl, hq, ho⟩ := hv
        exact kk ms q H7 (e1.trans e27) hq ho
    · simp_all (failIfUnchanged := false) only [and_true]
      intro r H1 hr1 e1 h1
      have hS1 := e1.2 K a _ hS
      simp_all (failIfUnchanged := false) only [and_true]
      rw [c_spDraw]
      refine ⟨hS1, hl, (by omega), by decide, fun n n0 n1 => ?_⟩
      simp_all (failIfUnchanged := false) only [and_true]
      refine ⟨by omega, by omega, ?_⟩
      refine for_rng (fun i σ H' => ∃ (ms : List Int) (v2 v3 : Option V), σ = [some (.ref a), some (.ref r), v2, v3] ∧ Ext H H' ∧ H' r = some (.lst (ms.map V.int)) ∧ ms.length = i ∧ (∀ m ∈ ms, 1 ≤ m ∧ m ≤ 6) ∧ prodL ms ≤ 200) ⟨[], none, none, rfl, e1, h1, rfl, fun _ h => absurd h List.not_mem_nil, by decide⟩ ?_ ?_
      · rintro i _ H2 hi ⟨ms, v2, v3, rfl, e2, h2, hml, hmb, hmp⟩
        have hi' : i < n.toNat := hi
        have hS2 := e2.2 K a _ hS
        have hm1 := (prodL_pos ms fun m hm => ⟨(hmb m hm).1, by have := (hmb m hm).2; omega⟩).1
        replace hmb := fun (_ : Unit) => hmb
        clear hi kk
        simp_all (failIfUnchanged := false) only [↓m_kBody]
        intro q3 H3 hq3 e3 h3
        have hS3 := e3.2 K a _ hS2
        have h2_3 := e3.at h2
        simp_all (failIfUnchanged := false) only [and_true]
        rw [c_spDraw]
        refine ⟨hS3, hl, (by omega), by decide, fun d d0 d1 => ?_⟩
        simp_all (failIfUnchanged := false) only [and_true]
        refine optK_ints (fun j => 1 ≤ j ∧ j ≤ 6) d0 (show d < 8 by omega) (fun v hv => ?_) fun z hz => ?_
        · simp only [List.mem_cons, List.not_mem_nil, or_false] at hv
          rcases hv with rfl | rfl | rfl | rfl | rfl | rfl | rfl | rfl <;> exact ⟨_, rfl, by decide, by decide⟩
        simp_all (failIfUnchanged := false) only [and_true]
        rw [c_spMany]
        refine ⟨ms, h2_3, fun m hm => ⟨(hmb () m hm).1, by have := (hmb () m hm).2; omega⟩, ?_⟩
        have hcm : CMul (prodL ms) z := .inr (by omega)
        have hln : ms.length < sizeLine := lt5000 (by omega)
        have hr3 : H r = none := hr1
        by_cases hg : 200 < prodL ms * z
        · simp_all (failIfUnchanged := false) only [and_true]
          have hpr : prodL (ms ++ [1]) = prodL ms := by rw [prodL_append, show prodL [1] = 1 by decide, Int.mul_one]
          refine ⟨lt5000 (by omega), ms ++ [1], _, _, rfl, (e2.trans e3).put hr1, by rw [List.map_append]; rfl, by simp [hml], fun m hm => ?_, by rw [hpr]; exact hmp⟩
          rcases List.mem_append.mp hm with h | h
          · exact hmb () m h
          · rw [List.mem_singleton.mp h]; decide
        · simp_all (failIfUnchanged := false) only [and_true]
          have hpr : prodL (ms ++ [z]) = prodL ms * z := by rw [prodL_append, show prodL [z] = z by simp [prodL]]
          refine ⟨lt5000 (by omega), ms ++ [z], _, _, rfl, (e2.trans e3).put hr1, by rw [List.map_append]; rfl, by simp [hml], fun m hm => ?_, by rw [hpr]; omega⟩
          rcases List.mem_append.mp hm with h | h
          · exact hmb () m h
          · rw [List.mem_singleton.mp h]; exact hz
      · rintro _ H2 ⟨ms, v2, v3, rfl, e2, h2, hml, hmb, hmp⟩
        have k1 := kk ms r H2 e2 h2 ⟨by omega, fun m hm => ⟨(hmb m hm).1, by have := (hmb m hm).2; omega⟩, by omega⟩
        clear kk hmb
        simp_all (failIfUnchanged := false) only [and_true]
def kSpl (x : Int) (H : Hp) (Q : VK) : List Int → Prop := fun ns => ∀ (r : Addr) (H' : Hp), H r = none → Ext H H' → H' r = some (.tup ((splitL ns x).map V.int)) → Q (.ref r) H'
theorem x_kSpl (x : Int) (H : Hp) (Q : VK) (ns : List Int) : kSpl x H Q ns = ∀ (r : Addr) (H' : Hp), H r = none → Ext H H' → H' r = some (.tup ((splitL ns x).map V.int)) → Q (.ref r) H' := rfl
def spSplit  : Sp := fun vs H Q E => ∃ (p : Addr) (x : Int), vs = [.ref p, .int x] ∧ (optK (lstAt H p) (kInts (kSz (kSpl x H Q))))
theorem c_spSplit  (p : Addr) (x : Int) (H : Hp) (Q : VK) (E : XK) : spSplit  [.ref p, .int x] H Q E = (optK (lstAt H p) (kInts (kSz (kSpl x H Q)))) := spx2 (f := fun (p : Addr) (x : Int) => [.ref p, .int x]) (fun _ _ _ _ h => by cases h; exact ⟨rfl, rfl⟩) p x
theorem l_spSplit  {vs : List V} {H : Hp} {Q : VK} {E : XK} (h : spSplit  vs H Q E) : vs.length = 2 := spl2 h fun _ _ => rfl
theorem ok_split_number (T : Tx K mg t) : FnOk P w K mg base CX0 1 t.a_split_number t.d_split_number ["sizes", "number"] spSplit := by
  refine T.F_split_number.ok c_split_number (fun vs H Q E h => l_spSplit h) (fun cdv A outer s H vs Q E hr h => ?_)
  · obtain ⟨p, x, rfl, h⟩ := h
    obtain ⟨xs, hp, ns, rfl, hs, k⟩ := optK_ex h
    replace hp := lst_of hp
    rw [x_kSpl] at k
    refine ⟨_, (@pss_cons _ _ _ _ _ (@ps_set _ _ (2) _ _ _ _ c_split_number.nd rfl (Or.inl rfl) (@pe_qLst _ _ _ _ (@pa_nil _)) (by rfl) (by first | exact .inl rfl | exact .inr rfl | assumption)) (@pss_cons _ _ _ _ _ (@ps_set _ _ (3) _ _ _ _ c_split_number.nd rfl (Or.inl rfl) (@pvN _ 1 _ _ (by rfl) (by first | exact Or.inl rfl | exact Or.inr (Or.inl rfl) | exact Or.inr (Or.inr rfl)) (by decide) (by decide)) (by rfl) (by first | exact .inl rfl | exact .inr rfl | assumption)) (@pss_cons _ _ _ _ _ (@ps_for _ _ _ _ _ _ _ _ PassesOwn.never rfl (@pi_rev _ _ _ _ _ _ (by rfl) T.z_reversed (@pa_c _ _ _ _ _ (@pvN _ 0 _ _ (by rfl) (by first | exact Or.inl rfl | exact Or.inr (Or.inl rfl) | exact Or.inr (Or.inr rfl)) (by decide) (by decide)) (@pa_nil _) (by rfl)) (by rfl)) (@pg_name _ _ (4) _ c_split_number.nd rfl (Or.inl rfl) (by first | exact .inl rfl | exact .inr rfl | assumption)) (@pss_cons _ _ _ _ _ (@ps_expr _ _ _ _ (@pe_bm _ _ _ _ _ _ _ _ _ _ _ _ PySem.F.plainAttrs_list PySem.F.slot_list_append PySem.F.type_list_append mt_append (@pvN _ 2 _ _ (by rfl) (by first | exact Or.inl rfl | exact Or.inr (Or.inl rfl) | exact Or.inr (Or.inr rfl)) (by decide) (by decide)) (@pa_c _ _ _ _ _ (@pe_op _ _ _ _ _ _ _ _ on_mod (@pvN _ 3 _ _ (by rfl) (by first | exact Or.inl rfl | exact Or.inr (Or.inl rfl) | exact Or.inr (Or.inr rfl)) (by decide) (by decide)) (@pvN _ 4 _ _ (by rfl) (by first | exact Or.inl rfl | exact Or.inr (Or.inl rfl) | exact Or.inr (Or.inr rfl)) (by decide) (by decide))) (@pa_nil _) (by rfl)) (by rfl) (by rfl) (by rfl) (by rfl) (by rfl)) (by rfl)) (@pss_one _ _ _ (@ps_set _ _ (3) _ _ _ _ c_split_number.nd rfl (Or.inl rfl) (@pe_op _ _ _ _ _ _ _ _ on_fdiv (@pvN _ 3 _ _ (by rfl) (by first | exact Or.inl rfl | exact Or.inr (Or.inl rfl) | exact Or.inr (Or.inr rfl)) (by decide) (by decide)) (@pvN _ 4 _ _ (by rfl) (by first | exact Or.inl rfl | exact Or.inr (Or.inl rfl) | exact Or.inr (Or.inr rfl)) (by decide) (by decide))) (by rfl) (by first | exact .inl rfl | exact .inr rfl | assumption)))) (by intros; rfl)) (@pss_cons _ _ _ _ _ (@ps_expr _ _ _ _ (@pe_bm0 _ _ _ _ _ _ _ _ _ PySem.F.plainAttrs_list PySem.F.slot_list_reverse PySem.F.type_list_reverse mt_reverse (@pvN _ 2 _ _ (by rfl) (by first | exact Or.inl rfl | exact Or.inr (Or.inl rfl) | exact Or.inr (Or.inr rfl)) (by decide) (by decide)) (by rfl) (by rfl)) (by rfl)) (@pss_one _ _ _ (@ps_ret _ _ _ _ (@pe_callTy _ _ _ _ _ _ _ _ _ call_nTuple (by rfl) T.z_tuple (by decide +kernel) (@pa_c _ _ _ _ _ (@pvN _ 2 _ _ (by rfl) (by first | exact Or.inl rfl | exact Or.inr (Or.inl rfl) | exact Or.inr (Or.inr rfl)) (by decide) (by decide)) (@pa_nil _) (by rfl)) (by decide) (by decide) (by rfl) (by rfl)))))))), ?_⟩
    rw [show start ["sizes", "number", "place", "left", "size"] [.ref p, .int x] = [some (.ref p), some (.int x), none, none, none] from rfl]
    simp_all (failIfUnchanged := false) only [and_true]
    intro r H1 hr1 e1 h1
    have hrp : r ≠ p := fun z => by rw [z, hp] at hr1; cases hr1
    have hp1 := e1.at hp
    try simp_all (failIfUnchanged := false) only [and_true]
    refine for_rev (xs := ns.map V.int) (fun i σ H' => ∃ v : Option V, σ = [some (.ref p), some (.int x), some (.ref r), some (.int (x / prodL (ns.drop (ns.length - i)))), v] ∧ Ext H H' ∧ H' r = some (.lst ((splitL (ns.drop (ns.length - i)) x).reverse.map V.int))) ⟨none, by simp [prodL], e1, by simpa [splitL] using h1⟩ (fun i σ H' _ ⟨_, _, e, _⟩ => SqL.of (e.at hp)) ?_ ?_
    · rintro i y _ H2 hi hx ⟨v, rfl, e2, h2⟩
      rw [List.length_map] at hi hx
      rw [List.getElem?_map] at hx
      obtain ⟨z, hz, rfl⟩ := Option.map_eq_some_iff.mp hx
      have b1 := (hs.drop (ns.length - i)).prod
      have b2 := hs.2 z (List.mem_of_getElem? hz)
      have e := left_step ns x i z hi hz (by omega)
      have e' := splitL_step ns x i z hi hz
      have hln : ((splitL (ns.drop (ns.length - i)) x).reverse).length < sizeLine := by
        rw [List.length_reverse, splitL_len]
        exact of_eq_true (lenLt _ (by have := hs.1; simp; omega))
      have z0 : 0 < z := by omega
      have z1 : z < 1073741824 := by omega
      clear b1 b2
      simp_all (failIfUnchanged := false) only [↓m_kBody]
      exact ⟨_, rfl, e2.put hr1, by rw [List.map_append]; rfl⟩
    · rintro _ H2 ⟨v, rfl, e2, h2⟩
      rw [List.length_map, Nat.sub_self, List.drop_zero] at h2
      simp_all (failIfUnchanged := false) only [and_true]
      intro q H3 hq e3 h3
      exact k q H3 ((e2.put hr1).free hq) ((e2.put hr1).trans e3) (by rw [h3, ← List.map_reverse, List.reverse_reverse])
def kAllP (cT : Addr) (H : Hp) (Q : VK) (E : XK) : List Int → Prop := fun ns => (prodL ns ≤ 4096 → ∀ D H', H D = none → Ext H H' → TupsAt H' D (rowsL ns) → Q (.ref D) H') ∧ (4096 < prodL ns → ∀ dx H', Ext H H' → H' dx = some (.xd [("number", .int (prodL ns))]) → E (.ref cT) (some dx) H')
theorem x_kAllP (cT : Addr) (H : Hp) (Q : VK) (E : XK) (ns : List Int) : kAllP cT H Q E ns = ((prodL ns ≤ 4096 → ∀ D H', H D = none → Ext H H' → TupsAt H' D (rowsL ns) → Q (.ref D) H') ∧ (4096 < prodL ns → ∀ dx H', Ext H H' → H' dx = some (.xd [("number", .int (prodL ns))]) → E (.ref cT) (some dx) H')) := rfl
def spPlaces (cT : Addr) : Sp := fun vs H Q E => ∃ (p : Addr), vs = [.ref p] ∧ (optK (lstAt H p) (kInts (kSz (kAllP cT H Q E))))
theorem c_spPlaces (cT : Addr) (p : Addr) (H : Hp) (Q : VK) (E : XK) : spPlaces cT [.ref p] H Q E = (optK (lstAt H p) (kInts (kSz (kAllP cT H Q E)))) := spx1 (f := fun (p : Addr) => [.ref p]) (fun _ _ h => by cases h; exact rfl) p
theorem l_spPlaces (cT : Addr) {vs : List V} {H : Hp} {Q : VK} {E : XK} (h : spPlaces cT vs H Q E) : vs.length = 1 := spl1 h fun _ => rfl
theorem ok_places (T : Tx K mg t) : FnOk P w K mg base (CX1 P w) 4 t.a_places t.d_places ["sizes"] (spPlaces t.a_TooMany) := by
  have G_count_of := ok_count_of (P := P) (w := w) (base := base) T
  have G_refuse_long := ok_refuse_long (P := P) (w := w) (base := base) T
  have G_split_number := ok_split_number (P := P) (w := w) (base := base) T
  refine T.F_places.ok c_places (fun vs H Q E h => l_spPlaces _ h) (fun cdv A outer s H vs Q E hr h => ?_)
  · obtain ⟨p, rfl, h⟩ := h
    obtain ⟨xs, hp, ns, rfl, hs, k1, k2⟩ := optK_ex h
    replace hp := lst_of hp
    clear h
    refine ⟨_, (@pss_cons _ _ _ _ _ (@ps_set _ _ (1) _ _ _ _ c_places.nd rfl (Or.inl rfl) (@pe_call _ _ _ _ _ _ _ _ _ _ _ _ _ _ _ _ G_count_of (hr.mono (by decide)) (by rfl) T.m_count_of T.F_count_of.kp T.b_count_of .nil pass0 (@pa_c _ _ _ _ _ (@pvN _ 0 _ _ (by rfl) (by first | exact Or.inl rfl | exact Or.inr (Or.inl rfl) | exact Or.inr (Or.inr rfl)) (by decide) (by decide)) (@pa_nil _) (by rfl)) (by decide) (by rfl) (by rfl)) (by rfl) (by first | exact .inl rfl | exact .inr rfl | assumption)) (@pss_cons _ _ _ _ _ (@ps_expr _ _ _ _ (@pe_call _ _ _ _ _ _ _ _ _ _ _ _ _ _ _ _ G_refuse_long (hr.mono (by decide)) (by rfl) T.m_refuse_long T.F_refuse_long.kp T.b_refuse_long .nil passes_def (@pa_c _ _ _ _ _ (@pvN _ 1 _ _ (by rfl) (by first | exact Or.inl rfl | exact Or.inr (Or.inl rfl) | exact Or.inr (Or.inr rfl)) (by decide) (by decide)) (@pa_nil _) (by rfl)) (by decide) (by rfl) (by rfl)) (by rfl)) (@pss_one _ _ _ (@ps_ret _ _ _ _ (@pe_comp _ _ _ _ _ _ _ _ _ _ _ (["number", "sizes", "count"]) (1) (comp_ok (defScope s_places) ["sizes", "count"] rfl rfl (by decide +kernel)) rfl (@pi_range1 _ _ _ _ _ _ (by rfl) T.z_range (@pa_c _ _ _ _ _ (@pvN _ 1 _ _ (by rfl) (by first | exact Or.inl rfl | exact Or.inr (Or.inl rfl) | exact Or.inr (Or.inr rfl)) (by decide) (by decide)) (@pa_nil _) (by rfl)) (by rfl)) (fun C s₀ H₀ ex pn => (@pg_name _ _ (0) _ (show List.Nodup (["number", "sizes", "count"] : List Str) from by decide +kernel) rfl (Or.inl rfl) (by first | exact .inl rfl | exact .inr rfl | assumption))) (fun C s₀ H₀ ex pn => (@pts_nil _)) (fun C s₀ H₀ ex pn => (@pe_call _ _ _ _ _ _ _ _ _ _ _ _ _ _ _ _ G_split_number (hr.mono (by decide)) (by rfl) T.m_split_number T.F_split_number.kp T.b_split_number .nil pass0 (@pa_c _ _ _ _ _ (@pvN _ 1 _ _ (by rfl) (by first | exact Or.inl rfl | exact Or.inr (Or.inl rfl) | exact Or.inr (Or.inr rfl)) (by decide) (by decide)) (@pa_c _ _ _ _ _ (@pvN _ 0 _ _ (by rfl) (by first | exact Or.inl rfl | exact Or.inr (Or.inl rfl) | exact Or.inr (Or.inr rfl)) (by decide) (by decide)) (@pa_nil _) (by rfl)) (by rfl)) (by decide) (by rfl) (by rfl))) (by intros; rfl)))))), ?_⟩
    rw [show start ["sizes", "count"] [.ref p] = [some (.ref p), none] from rfl]
    have hpos := hs.prod.1
    simp_all (failIfUnchanged := false) only [↓c_spCount, ↓m_kSz, ↓x_kCnt]
    rw [c_spLong]
    refine ⟨fun hn => ?_, fun hn dx H' e h' => k2 hn dx H' e h'⟩
    have k1' := k1 hn
    clear k1 k2
    have hr2 : prodL ns < 2 ^ 62 := by omega
    have hr1 : -(2 ^ 62) ≤ prodL ns := by omega
    simp_all (failIfUnchanged := false) only [and_true]
    refine ⟨hr1, hr2, ?_⟩
    refine comp_rel (List.range (prodL ns).toNat) (fun _ => true) (fun j x H' => x = .int (0 + (j : Nat))) (fun D j y H' => ∃ q, y = .ref q ∧ q ≠ D ∧ H' q = some (.tup ((splitL ns (j : Nat)).map V.int))) wk_rng.1 wk_rng.2 (fun D _ y H1 H2 ⟨q, h1, h2, h3⟩ e => ⟨q, h1, h2, e.at h3⟩) (fun D _ y H1 o ⟨q, h1, h2, h3⟩ => ⟨q, h1, h2, by rw [upd_ne h2]; exact h3⟩) (len5000 (by rw [List.length_range]; omega)) ?_ ?_
    · intro D j x H' N1 N0 hz hD e ⟨ys0, hys0⟩ hx kk _
      subst hx
      have hp' := e.at hp
      have kk' := kk rfl
      clear kk
      simp_all (failIfUnchanged := false) only [↓m_kCm_1, ↓m_kCm2, ↓c_spSplit, ↓m_kSz]
      rw [x_kSpl]
      intro r H2 hr2 e2 h2
      rw [Int.zero_add] at h2
      exact kk' _ H2 e2 ⟨r, rfl, (fun z => by rw [z, hys0] at hr2; cases hr2), h2⟩
    · intro D ys H' hD e hD' al
      rw [filt] at al
      refine k1' D H' hD e ⟨ys, hD', ?_, fun i z y hz hy => ?_⟩
      · rw [al.1, List.length_range, rowsL_len]
      · unfold rowsL at hz
        rw [List.getElem?_map] at hz
        obtain ⟨j, hj, rfl⟩ := Option.map_eq_some_iff.mp hz
        obtain ⟨q, h1, _, h3⟩ := al.2 i j y hj hy
        exact ⟨q, h1, h3⟩
def stepL (ms : List Int) (o : Int × Int) (y : Int) : Int := if o.2 = 1 then y else ms.getD o.1.toNat 0 - 1 - y
def placeW (ms : List Int) (os : List (Int × Int)) (ys : List Int) : List Int := (os.zip ys).foldl (fun pl p => pl.set p.1.1.toNat (stepL ms p.1 p.2)) (List.replicate ms.length 0)
theorem placeW_len (ms : List Int) (ps : List ((Int × Int) × Int)) : ∀ pl : List Int, (ps.foldl (fun pl p => pl.set p.1.1.toNat (stepL ms p.1 p.2)) pl).length = pl.length := by
  induction ps with
  | nil => intro pl; rfl
  | cons p ps ih => intro pl; rw [List.foldl_cons, ih, List.length_set]
theorem placeW_take {ms : List Int} {os : List (Int × Int)} {ys : List Int} {i : Nat} {o : Int × Int} {y : Int} (ho : os[i]? = some o) (hy : ys[i]? = some y) : placeW ms (os.take (i + 1)) (ys.take (i + 1)) = (placeW ms (os.take i) (ys.take i)).set o.1.toNat (stepL ms o y) := by
  unfold placeW
  have e1 : (os.take (i + 1)).zip (ys.take (i + 1)) = (os.take i).zip (ys.take i) ++ [(o, y)] := by
    rw [List.take_add_one, List.take_add_one, ho, hy, List.zip_append (by
      have h1 := (List.getElem?_eq_some_iff.mp ho).1
      have h2 := (List.getElem?_eq_some_iff.mp hy).1
      rw [List.length_take, List.length_take]; omega)]
    rfl
  rw [e1, List.foldl_append]
  rfl
theorem rep_ints (n : Nat) : (List.replicate n [V.int 0]).flatten = (List.replicate n (0 : Int)).map V.int := by
  induction n with
  | zero => rfl
  | succ n ih => rw [List.replicate_succ, List.flatten_cons, ih, List.replicate_succ, List.map_cons]; rfl
theorem at_vals {vals : List Int} {c : Int} (h0 : 0 ≤ c) (h1 : c < vals.length) : atI (vals.map V.int) c = some (.int (vals.getD c.toNat 0)) := by
  obtain ⟨n, rfl⟩ := Int.eq_ofNat_of_zero_le h0
  have hn : n < vals.length := by omega
  refine atI_nat ?_
  rw [List.getElem?_map, List.getElem?_eq_getElem hn]
  simp [List.getD, List.getElem?_eq_getElem hn]
theorem ix_in {n : Nat} {c : Int} (h0 : 0 ≤ c) (h1 : c < n) : ixN n c = some c.toNat := by
  unfold ixN
  rw [if_pos h0, if_pos (by omega)]
def spBySteps  : Sp := fun vs H Q E => ∃ (p : Addr) (o : Addr) (q : Addr), vs = [.ref p, .ref o, .ref q] ∧ (∃ (ms : List Int) (os : List (Int × Int)) (ys : List Int), H p = some (.lst (ms.map V.int)) ∧ TupsAt H o (os.map fun o => [o.1, o.2]) ∧ H q = some (.tup (ys.map V.int)) ∧ ms.length ≤ 8 ∧ ys.length = os.length ∧ (∀ o ∈ os, 0 ≤ o.1 ∧ o.1 < (ms.length : Int)) ∧ ∀ (r : Addr) (H' : Hp), H r = none → Ext H H' → H' r = some (.tup ((placeW ms os ys).map V.int)) → Q (.ref r) H')
theorem c_spBySteps  (p : Addr) (o : Addr) (q : Addr) (H : Hp) (Q : VK) (E : XK) : spBySteps  [.ref p, .ref o, .ref q] H Q E = (∃ (ms : List Int) (os : List (Int × Int)) (ys : List Int), H p = some (.lst (ms.map V.int)) ∧ TupsAt H o (os.map fun o => [o.1, o.2]) ∧ H q = some (.tup (ys.map V.int)) ∧ ms.length ≤ 8 ∧ ys.length = os.length ∧ (∀ o ∈ os, 0 ≤ o.1 ∧ o.1 < (ms.length : Int)) ∧ ∀ (r : Addr) (H' : Hp), H r = none → Ext H H' → H' r = some (.tup ((placeW ms os ys).map V.int)) → Q (.ref r) H') := spx3 (f := fun (p : Addr) (o : Addr) (q : Addr) => [.ref p, .ref o, .ref q]) (fun _ _ _ _ _ _ h => by cases h; exact ⟨rfl, rfl, rfl⟩) p o q
theorem l_spBySteps  {vs : List V} {H : Hp} {Q : VK} {E : XK} (h : spBySteps  vs H Q E) : vs.length = 3 := spl3 h fun _ _ _ => rfl
theorem ok_place_by_steps (T : Tx K mg t) : FnOk P w K mg base CX0 1 t.a_place_by_steps t.d_place_by_steps ["sizes", "order", "steps"] spBySteps := by
  refine T.F_place_by_steps.ok c_place_by_steps (fun vs H Q E h => l_spBySteps h) (fun cdv A outer s H vs Q E hr h => ?_)
  · obtain ⟨p, o, q, rfl, ms, os, ys, hp, ⟨us, ho, al⟩, hq, h8, hyl, hob, k⟩ := h
    refine ⟨_, (@pss_cons _ _ _ _ _ (@ps_set _ _ (3) _ _ _ _ c_place_by_steps.nd rfl (Or.inl rfl) (@pe_op _ _ _ _ _ _ _ _ op_nRep (@pe_qLst _ _ _ _ (@pa_c _ _ _ _ _ (@pe_int _ _ _ _) (@pa_nil _) (by rfl))) (@pe_callB _ _ _ _ _ _ _ ("len") _ call_qLen (by rfl) T.z_len (by decide +kernel) (@pa_c _ _ _ _ _ (@pvN _ 0 _ _ (by rfl) (by first | exact Or.inl rfl | exact Or.inr (Or.inl rfl) | exact Or.inr (Or.inr rfl)) (by decide) (by decide)) (@pa_nil _) (by rfl)) (by decide) (by decide) (by rfl) (by rfl))) (by rfl) (by first | exact .inl rfl | exact .inr rfl | assumption)) (@pss_cons _ _ _ _ _ (@ps_for _ _ _ _ _ _ _ _ PassesOwn.never rfl (@pi_zip _ _ _ _ _ _ _ _ _ (by rfl) T.z_zip (@pa_c _ _ _ _ _ (@pvN _ 1 _ _ (by rfl) (by first | exact Or.inl rfl | exact Or.inr (Or.inl rfl) | exact Or.inr (Or.inr rfl)) (by decide) (by decide)) (@pa_c _ _ _ _ _ (@pvN _ 2 _ _ (by rfl) (by first | exact Or.inl rfl | exact Or.inr (Or.inl rfl) | exact Or.inr (Or.inr rfl)) (by decide) (by decide)) (@pa_nil _) (by rfl)) (by rfl)) (by rfl) (by rfl)) ((@pg_tup _ _ _ _ _ (2) rfl (@pgs_consN _ _ _ _ _ (@pg_name _ _ (4) _ c_place_by_steps.nd rfl (Or.inl rfl) (by first | exact .inl rfl | exact .inr rfl | assumption)) (@pgs_consN _ _ _ _ _ (@pg_name _ _ (5) _ c_place_by_steps.nd rfl (Or.inl rfl) (by first | exact .inl rfl | exact .inr rfl | assumption)) (@pgs_nilN _) (by rfl)) (by rfl)) (by rfl) (by rfl)).mono fun _ _ _ _ h => gTup_q h) (@pss_one _ _ _ (@ps_asg _ _ _ _ _ _ (@pe_ifExp _ _ _ _ _ _ _ _ (@pt_cmpRN _ _ _ _ _ _ _ _ (op_qEq hr.units) (@pe_ix _ _ _ _ _ _ _ ix_q (@pvN _ 4 _ _ (by rfl) (by first | exact Or.inl rfl | exact Or.inr (Or.inl rfl) | exact Or.inr (Or.inr rfl)) (by decide) (by decide)) (@pe_int _ _ _ _) (fun _ _ => rfl)) (@pe_int _ _ _ _) (nomark _)) (@pvN _ 5 _ _ (by rfl) (by first | exact Or.inl rfl | exact Or.inr (Or.inl rfl) | exact Or.inr (Or.inr rfl)) (by decide) (by decide)) (@pe_op _ _ _ _ _ _ _ _ on_sub (@pe_op _ _ _ _ _ _ _ _ on_sub (@pe_ix _ _ _ _ _ _ _ ix_q (@pvN _ 0 _ _ (by rfl) (by first | exact Or.inl rfl | exact Or.inr (Or.inl rfl) | exact Or.inr (Or.inr rfl)) (by decide) (by decide)) (@pe_ix _ _ _ _ _ _ _ ix_q (@pvN _ 4 _ _ (by rfl) (by first | exact Or.inl rfl | exact Or.inr (Or.inl rfl) | exact Or.inr (Or.inr rfl)) (by decide) (by decide)) (@pe_int _ _ _ _) (fun _ _ => rfl)) (fun _ _ => rfl)) (@pe_int _ _ _ _)) (@pvN _ 5 _ _ (by rfl) (by first | exact Or.inl rfl | exact Or.inr (Or.inl rfl) | exact Or.inr (Or.inr rfl)) (by decide) (by decide)))) (@pg_sub _ _ _ _ _ _ _ (@pvN _ 3 _ _ (by rfl) (by first | exact Or.inl rfl | exact Or.inr (Or.inl rfl) | exact Or.inr (Or.inr rfl)) (by decide) (by decide)) (@pe_ix _ _ _ _ _ _ _ ix_q (@pvN _ 4 _ _ (by rfl) (by first | exact Or.inl rfl | exact Or.inr (Or.inl rfl) | exact Or.inr (Or.inr rfl)) (by decide) (by decide)) (@pe_int _ _ _ _) (fun _ _ => rfl)) set_list (by intros; rfl)) (by rfl) (by rfl) (by rfl))) (by intros; rfl)) (@pss_one _ _ _ (@ps_ret _ _ _ _ (@pe_callTy _ _ _ _ _ _ _ _ _ call_nTuple (by rfl) T.z_tuple (by decide +kernel) (@pa_c _ _ _ _ _ (@pvN _ 3 _ _ (by rfl) (by first | exact Or.inl rfl | exact Or.inr (Or.inl rfl) | exact Or.inr (Or.inr rfl)) (by decide) (by decide)) (@pa_nil _) (by rfl)) (by decide) (by decide) (by rfl) (by rfl)))))), ?_⟩
    rw [show start ["sizes", "order", "steps", "place", "loop", "step"] [.ref p, .ref o, .ref q] = [some (.ref p), some (.ref o), some (.ref q), none, none, none] from rfl]
    simp_all (failIfUnchanged := false) only [and_true]
    intro z1 H1 hz1 e1 h1
    have hp1 := e1.at hp
    simp_all (failIfUnchanged := false) only [and_true]
    refine ⟨by omega, by omega, len5000 (by simp; omega), ?_⟩
    intro r H2 hr2 e2 h2
    rw [Int.toNat_natCast, rep_ints] at h2
    have e12 := e1.trans e2
    have hr0 : H r = none := e1.free hr2
    have ho2 := e12.at ho
    have hq2 := e12.at hq
    simp_all (failIfUnchanged := false) only [and_true]
    refine for_zip (ka := false) (kb := true) (xs := us) (ys := ys.map V.int) (fun i σ H' => ∃ v4 v5 : Option V, σ = [some (.ref p), some (.ref o), some (.ref q), some (.ref r), v4, v5] ∧ Ext H H' ∧ H' r = some (.lst ((placeW ms (os.take i) (ys.take i)).map V.int))) ⟨none, none, rfl, e12, h2⟩ (fun i σ H' ⟨_, _, _, e, _⟩ => ⟨e.at ho, e.at hq⟩) ?_ ?_
    · rintro i u x t _ H3 H4 hu hx ⟨v4, v5, rfl, e3, h3⟩ ht e4 h4
      rw [List.getElem?_map] at hx
      obtain ⟨y, hy, rfl⟩ := Option.map_eq_some_iff.mp hx
      have hi : i < os.length := by rw [← hyl]; exact (List.getElem?_eq_some_iff.mp hy).1
      obtain ⟨w, rfl, hw⟩ := al.2 i [os[i].1, os[i].2] u (by rw [List.getElem?_map, List.getElem?_eq_getElem hi]; rfl) hu
      have hput := fun (_ : Unit) => placeW_take (ms := ms) (List.getElem?_eq_getElem hi) hy
      have hb := hob os[i] (List.getElem_mem hi)
      have hw4 : H4 w = some (.tup [.int os[i].1, .int os[i].2]) := (e3.trans e4).at hw
      have hp4 := (e3.trans e4).at hp
      have h3_4 := e4.at h3
      have hlen : (placeW ms (os.take i) (ys.take i)).length = ms.length := by unfold placeW; rw [placeW_len, List.length_replicate]
      unfold stepL at hput
      generalize os[i] = oo at hput hb hw4
      obtain ⟨o1, o2⟩ := oo
      generalize placeW ms (os.take i) (ys.take i) = pl at h3 h3_4 hlen hput
      have hix : ixN pl.length o1 = some o1.toNat := ix_in hb.1 (by rw [hlen]; exact hb.2)
      have hat := at_vals (vals := ms) hb.1 hb.2
      clear hu hx k hob hlen h3 hw
      by_cases hg : o2 = 1
      · simp_all (failIfUnchanged := false) only [↓m_kBody]
        refine ⟨_, _, rfl, (e3.trans e4).put hr0, ?_⟩
        rw [hput (), List.map_set]
        simp [hg]
      · simp_all (failIfUnchanged := false) only [↓m_kBody]
        refine ⟨_, _, rfl, (e3.trans e4).put hr0, ?_⟩
        rw [hput (), List.map_set]
        simp [hg]
    · rintro _ H3 ⟨v4, v5, rfl, e3, h3⟩
      have hm : min us.length (ys.map V.int).length = os.length := by rw [al.1, List.length_map, List.length_map]; omega
      rw [hm, List.take_length, ← hyl, List.take_length] at h3
      simp_all (failIfUnchanged := false) only [and_true]
      intro r' H4 hr4 e4 h4
      exact k r' H4 (e3.free hr4) (e3.trans e4) h4
def wayF (x : V) : Bool := match x with
  | .int i => inV (.int i) [.int 1, .int (-1)]
  | _ => false
def loopO (n : Int) : Option HO → Bool
  | some (.tup [x, y]) => belowF x n && wayF y
  | _ => false
def loopF (n : Int) (x : V) (H : Hp) : Bool := match x with
  | .ref q => loopO n (H q)
  | _ => false
theorem thingOk_ext {H H' : Hp} (e : Ext H H') {x : V} (h : thingOk H x) : thingOk H' x := by
  obtain ⟨b, hb⟩ := Option.isSome_iff_exists.mp h.1
  refine ⟨Option.isSome_iff_exists.mpr ⟨b, isW_ext e hb⟩, fun q xs hx hq y hy => ?_⟩
  subst hx
  obtain ⟨_, o, ho, _⟩ := isW_obj hb
  have := e.at ho
  rw [hq] at this
  cases this
  obtain ⟨c, hc⟩ := Option.isSome_iff_exists.mp (h.2 q xs rfl ho y hy)
  exact Option.isSome_iff_exists.mpr ⟨c, isW_ext e hc⟩
theorem loopF_ext {H H' : Hp} (e : Ext H H') {n : Int} {x : V} (h : thingOk H x) : loopF n x H' = loopF n x H := by
  obtain ⟨b, hb⟩ := Option.isSome_iff_exists.mp h.1
  cases x with
  | ref q =>
    obtain ⟨_, o, ho, _⟩ := isW_obj hb
    show loopO n (H' q) = loopO n (H q)
    rw [ho, e.at ho]
  | _ => rfl
def spLoop  : Sp := fun vs H Q E => ∃ (x : V) (n : Int), vs = [x, .int n] ∧ (thingOk H x ∧ ∀ H', Ext H H' → Q (.bl (loopF n x H)) H')
theorem c_spLoop  (x : V) (n : Int) (H : Hp) (Q : VK) (E : XK) : spLoop  [x, .int n] H Q E = (thingOk H x ∧ ∀ H', Ext H H' → Q (.bl (loopF n x H)) H') := spx2 (f := fun (x : V) (n : Int) => [x, .int n]) (fun _ _ _ _ h => by cases h; exact ⟨rfl, rfl⟩) x n
theorem l_spLoop  {vs : List V} {H : Hp} {Q : VK} {E : XK} (h : spLoop  vs H Q E) : vs.length = 2 := spl2 h fun _ _ => rfl
theorem ok_is_loop (T : Tx K mg t) : FnOk P w K mg base CX0 3 t.a_is_loop t.d_is_loop ["thing", "many"] spLoop := by
  have G_is_number_below := ok_is_number_below (P := P) (w := w) (base := base) T
  have G_is_whole := ok_is_whole (P := P) (w := w) (base := base) T
  refine T.F_is_loop.ok c_is_loop (fun vs H Q E h => l_spLoop h) (fun cdv A outer s H vs Q E hr h => ?_)
  · obtain ⟨x, n, rfl, hk, k⟩ := h
    refine ⟨_, (@pss_cons _ _ _ _ _ (@ps_if _ _ _ _ _ _ _ _ (PW.pt (@pw_or _ _ _ _ _ _ _ (@pt_not _ _ _ _ (@pt_valN _ _ _ (@pe_callB _ _ _ _ _ _ _ ("isinstance") _ call_qIsi (by rfl) T.z_isinstance (by decide +kernel) (@pa_c _ _ _ _ _ (@pvN _ 0 _ _ (by rfl) (by first | exact Or.inl rfl | exact Or.inr (Or.inl rfl) | exact Or.inr (Or.inr rfl)) (by decide) (by decide)) (@pa_c _ _ _ _ _ (@pe_bltn _ _ (.ty "tuple") (.type "tuple") _ (by rfl) T.z_tuple (by decide +kernel) rfl (by decide) (by decide)) (@pa_nil _) (by rfl)) (by rfl)) (by decide) (by decide) (by rfl) (by rfl)) (by intros; rfl))) (@pw_or1 _ _ _ _ (@pt_cmpRN _ _ _ _ _ _ _ _ (op_qNe hr.units) (@pe_callB _ _ _ _ _ _ _ ("len") _ call_qLen (by rfl) T.z_len (by decide +kernel) (@pa_c _ _ _ _ _ (@pvN _ 0 _ _ (by rfl) (by first | exact Or.inl rfl | exact Or.inr (Or.inl rfl) | exact Or.inr (Or.inr rfl)) (by decide) (by decide)) (@pa_nil _) (by rfl)) (by decide) (by decide) (by rfl) (by rfl)) (@pe_int _ _ _ _) (nomark _))))) (@pss_one _ _ _ (@ps_ret _ _ _ _ (@pe_bl _ _ _ _))) (@pss_nil _)) (@pss_one _ _ _ (@ps_ret _ _ _ _ (@pe_andN _ _ _ _ _ _ _ (@pe_call _ _ _ _ _ _ _ _ _ _ _ _ _ _ _ _ G_is_number_below (hr.mono (by decide)) (by rfl) T.m_is_number_below T.F_is_number_below.kp T.b_is_number_below .nil pass0 (@pa_c _ _ _ _ _ (@pe_ix _ _ _ _ _ _ _ ix_q (@pvN _ 0 _ _ (by rfl) (by first | exact Or.inl rfl | exact Or.inr (Or.inl rfl) | exact Or.inr (Or.inr rfl)) (by decide) (by decide)) (@pe_int _ _ _ _) (fun _ _ => rfl)) (@pa_c _ _ _ _ _ (@pvN _ 1 _ _ (by rfl) (by first | exact Or.inl rfl | exact Or.inr (Or.inl rfl) | exact Or.inr (Or.inr rfl)) (by decide) (by decide)) (@pa_nil _) (by rfl)) (by rfl)) (by decide) (by rfl) (by rfl)) (@pe_andN _ _ _ _ _ _ _ (@pe_call _ _ _ _ _ _ _ _ _ _ _ _ _ _ _ _ G_is_whole (hr.mono (by decide)) (by rfl) T.m_is_whole T.F_is_whole.kp T.b_is_whole .nil pass0 (@pa_c _ _ _ _ _ (@pe_ix _ _ _ _ _ _ _ ix_q (@pvN _ 0 _ _ (by rfl) (by first | exact Or.inl rfl | exact Or.inr (Or.inl rfl) | exact Or.inr (Or.inr rfl)) (by decide) (by decide)) (@pe_int _ _ _ _) (fun _ _ => rfl)) (@pa_nil _) (by rfl)) (by decide) (by rfl) (by rfl)) (@pe_one _ _ _ _ _ (@pe_cmpR _ _ _ _ _ _ _ _ op_nIn (@pe_ix _ _ _ _ _ _ _ ix_q (@pvN _ 0 _ _ (by rfl) (by first | exact Or.inl rfl | exact Or.inr (Or.inl rfl) | exact Or.inr (Or.inr rfl)) (by decide) (by decide)) (@pe_int _ _ _ _) (fun _ _ => rfl)) (@pe_qTup _ _ _ _ _ (@pa_c _ _ _ _ _ (@pe_int _ _ _ _) (@pa_c _ _ _ _ _ (@pe_un _ _ _ _ _ _ un_negN (@pe_int _ _ _ _)) (@pa_nil _) (by rfl)) (by rfl))) (by with_unfolding_all rfl)))))))), ?_⟩
    rw [show start ["thing", "many"] [x, .int n] = [some (x), some (.int n)] from rfl]
    cases x with
    | int i => have k' : Q (.bl false) H := k H (Ext.refl _); clear k; simp_all (failIfUnchanged := false) only [and_true]
    | bl i => have k' : Q (.bl false) H := k H (Ext.refl _); clear k; simp_all (failIfUnchanged := false) only [and_true]
    | non => have k' : Q (.bl false) H := k H (Ext.refl _); clear k; simp_all (failIfUnchanged := false) only [and_true]
    | str i => have k' : Q (.bl false) H := k H (Ext.refl _); clear k; simp_all (failIfUnchanged := false) only [and_true]
    | ref q =>
      obtain ⟨b, hb⟩ := Option.isSome_iff_exists.mp hk.1
      obtain ⟨rfl, o, ho, ht⟩ := isW_obj hb
      have hpf : loopF n (.ref q) H = loopO n (some o) := by rw [← ho]; rfl
      rw [hpf] at k
      clear hpf hb
      cases o with
      | tup xs =>
        by_cases hl : xs.length = 2
        · match xs, hl with
          | [x, y], _ =>
            obtain ⟨c, hc⟩ := Option.isSome_iff_exists.mp (hk.2 q _ rfl ho x (by simp))
            obtain ⟨d, hd⟩ := Option.isSome_iff_exists.mp (hk.2 q _ rfl ho y (by simp))
            replace k : ∀ H', Ext H H' → Q (.bl (belowF x n && wayF y)) H' := k
            clear hk ht
            simp_all (failIfUnchanged := false) only [and_true]
            rw [c_spBelow, hc, optK_some, x_kBelow]
            cases hbl : belowF x n with
            | false =>
              have k' := k H (Ext.refl _)
              rw [hbl, Bool.false_and] at k'
              clear k hbl
              simp_all (failIfUnchanged := false) only [and_true]
            | true =>
              rw [hbl, Bool.true_and] at k
              clear hbl
              simp_all (failIfUnchanged := false) only [and_true]
              rw [c_spWhole]
              cases y with
              | int i =>
                cases hd
                simp_all (failIfUnchanged := false) only [and_true]
                intro z H1 hz e1 h1
                have k' := k H1 e1
                have e2 : wayF (.int i) = inV (.int i) [.int 1, .int (-1)] := rfl
                rw [e2] at k'
                clear k
                simp_all (failIfUnchanged := false) only [and_true]
                exact ⟨rfl, rfl⟩
              | bl i => cases hd; have k' : Q (.bl false) H := k H (Ext.refl _); clear k; simp_all (failIfUnchanged := false) only [and_true]
              | non => cases hd; have k' : Q (.bl false) H := k H (Ext.refl _); clear k; simp_all (failIfUnchanged := false) only [and_true]
              | str i => cases hd; have k' : Q (.bl false) H := k H (Ext.refl _); clear k; simp_all (failIfUnchanged := false) only [and_true]
              | ref p =>
                obtain ⟨rfl, o, ho, ht⟩ := isW_obj hd
                have k' : Q (.bl false) H := k H (Ext.refl _)
                clear k
                simp_all (failIfUnchanged := false) only [and_true]
              | _ => cases hd
        · have k' : Q (.bl false) H := by
            have e : loopO n (some (.tup xs)) = false := by
              match xs, hl with
              | [], _ => rfl
              | [_], _ => rfl
              | [_, _], h => exact absurd rfl h
              | _ :: _ :: _ :: _, _ => rfl
            rw [e] at k
            exact k H (Ext.refl _)
          have hl' : ¬ ((xs.length : Int) = 2) := by omega
          clear k
          simp_all (failIfUnchanged := false) only [and_true]
      | lst xs => have k' : Q (.bl false) H := k H (Ext.refl _); clear k; simp_all (failIfUnchanged := false) only [and_true]
      | dK xs => have k' : Q (.bl false) H := k H (Ext.refl _); clear k; simp_all (failIfUnchanged := false) only [and_true]
      | dT xs => have k' : Q (.bl false) H := k H (Ext.refl _); clear k ht; have ht : tyO (.dT xs) = some "dict" := rfl; simp_all (failIfUnchanged := false) only [and_true]
      | frz ob u =>
        cases u with
        | lst ys => have k' : Q (.bl false) H := k H (Ext.refl _); clear k ht; have ht : tyO (.frz ob (.lst ys)) = some "list" := rfl; simp_all (failIfUnchanged := false) only [and_true]
        | _ => rcases ht with ht | ht | ht <;> cases ht
      | _ => rcases ht with ht | ht | ht <;> cases ht
    | _ => cases hk.1
def LoopsAt (n : Nat) (H : Hp) (q : Addr) (os : List (Int × Int)) : Prop := TupsAt H q (os.map fun o => [o.1, o.2]) ∧ os.length = n ∧ ∀ o ∈ os, (0 ≤ o.1 ∧ o.1 < (n : Int)) ∧ (o.2 = 1 ∨ o.2 = -1)
def BadIn (n : Nat) (H : Hp) (q : Addr) (xs : List V) : Prop := (∀ y ∈ xs, thingOk H y) ∧ (xs.all fun y => loopF n y H) = false
def BadOrd (n : Nat) (H : Hp) (x : V) : Prop := ((isW H x).isSome = true ∧ ∀ q o, x = .ref q → H q = some o → tyO o ≠ some "list") ∨ ∃ q xs, x = .ref q ∧ H q = some (.lst xs) ∧ xs.length ≤ 20 ∧ (xs.length ≠ n ∨ BadIn n H q xs ∨ ∃ os, LoopsAt n H q os ∧ ¬ (os.map fun o => o.1).Nodup)
theorem pair_thing {H : Hp} {w : Addr} {a b : Int} (h : H w = some (.tup [.int a, .int b])) : thingOk H (.ref w) := by
  refine ⟨by rw [isW_ref']; simp [h, tyO_tup], fun q xs e hq y hy => ?_⟩
  cases e
  rw [h] at hq
  cases hq
  simp only [List.mem_cons, List.not_mem_nil, or_false] at hy
  rcases hy with rfl | rfl <;> rfl
theorem pair_loop {H : Hp} {w : Addr} {n a b : Int} (h : H w = some (.tup [.int a, .int b])) (h0 : 0 ≤ a ∧ a < n) (h1 : b = 1 ∨ b = -1) : loopF n (.ref w) H = true := by
  show loopO n (H w) = true
  rw [h]
  show (belowF (.int a) n && wayF (.int b)) = true
  have e1 : belowF (.int a) n = (decide (0 ≤ a) && decide (a < n)) := rfl
  rw [e1, decide_eq_true h0.1, decide_eq_true h0.2]
  rcases h1 with rfl | rfl <;> rfl
theorem LoopsAt.all {n : Nat} {H : Hp} {q : Addr} {os : List (Int × Int)} {xs : List V} (h : LoopsAt n H q os) (hq : H q = some (.lst xs)) : xs.length = n ∧ (∀ y ∈ xs, thingOk H y ∧ loopF n y H = true) := by
  obtain ⟨⟨us, hu, al⟩, hl, ho⟩ := h
  rw [hq] at hu
  cases hu
  refine ⟨by rw [al.1, List.length_map, hl], fun y hy => ?_⟩
  obtain ⟨i, hi, rfl⟩ := List.mem_iff_getElem.mp hy
  have hio : i < os.length := by have := al.1; rw [List.length_map] at this; omega
  obtain ⟨w, e, hw⟩ := al.2 i [os[i].1, os[i].2] xs[i] (by rw [List.getElem?_map, List.getElem?_eq_getElem hio]; rfl) (List.getElem?_eq_getElem hi)
  have hb := ho os[i] (List.getElem_mem hio)
  rw [e]
  exact ⟨pair_thing hw, pair_loop hw hb.1 hb.2⟩
def spIsOrder  : Sp := fun vs H Q E => ∃ (p : Addr) (x : V), vs = [.ref p, x] ∧ (∃ ms : List Int, H p = some (.lst (ms.map V.int)) ∧ ms.length ≤ 8 ∧ (BadOrd ms.length H x → ∀ H', Ext H H' → Q (.bl false) H') ∧ (¬ BadOrd ms.length H x → ∃ q os, x = .ref q ∧ LoopsAt ms.length H q os ∧ ∀ H', Ext H H' → Q (.bl true) H'))
theorem c_spIsOrder  (p : Addr) (x : V) (H : Hp) (Q : VK) (E : XK) : spIsOrder  [.ref p, x] H Q E = (∃ ms : List Int, H p = some (.lst (ms.map V.int)) ∧ ms.length ≤ 8 ∧ (BadOrd ms.length H x → ∀ H', Ext H H' → Q (.bl false) H') ∧ (¬ BadOrd ms.length H x → ∃ q os, x = .ref q ∧ LoopsAt ms.length H q os ∧ ∀ H', Ext H H' → Q (.bl true) H')) := spx2 (f := fun (p : Addr) (x : V) => [.ref p, x]) (fun _ _ _ _ h => by cases h; exact ⟨rfl, rfl⟩) p x
theorem l_spIsOrder  {vs : List V} {H : Hp} {Q : VK} {E : XK} (h : spIsOrder  vs H Q E) : vs.length = 2 := spl2 h fun _ _ => rfl
theorem ok_is_order (T : Tx K mg t) : FnOk P w K mg base CX0 4 t.a_is_order t.d_is_order ["sizes", "thing"] spIsOrder := by
  have G_is_loop := ok_is_loop (P := P) (w := w) (base := base) T
  refine T.F_is_order.ok c_is_order (fun vs H Q E h => l_spIsOrder h) (fun cdv A outer s H vs Q E hr h => ?_)
  · obtain ⟨p, x, rfl, ms, hp, h8, hbad, hgood⟩ := h
    have hcase : ((isW H x).isSome = true ∧ (∀ q o, x = .ref q → H q = some o → tyO o ≠ some "list") ∧ Q (.bl false) H) ∨ (∃ q xs, x = .ref q ∧ H q = some (.lst xs) ∧ xs.length ≠ ms.length ∧ xs.length ≤ 20 ∧ Q (.bl false) H) ∨ (∃ q xs, x = .ref q ∧ H q = some (.lst xs) ∧ xs.length = ms.length ∧ (∀ y ∈ xs, thingOk H y) ∧ ((xs.all fun y => loopF (ms.length : Nat) y H) = false → ∀ H', Ext H H' → Q (.bl false) H') ∧ ((xs.all fun y => loopF (ms.length : Nat) y H) = true → ∃ os, LoopsAt ms.length H q os ∧ ∀ H', Ext H H' → Q (.bl (decide ((setN (os.map fun o => o.1) : Int) = (ms.length : Int)))) H')) := by
      by_cases hB : BadOrd ms.length H x
      · have kf := hbad hB
        rcases hB with ⟨a, b⟩ | ⟨q, xs, e, hq, hl, hc⟩
        · exact .inl ⟨a, b, kf H (Ext.refl _)⟩
        · by_cases hn : xs.length = ms.length
          · right; right
            rcases hc with h1 | h1 | ⟨os, h1, h2⟩
            · exact absurd hn h1
            · exact ⟨q, xs, e, hq, hn, h1.1, fun _ => kf, fun h => absurd (h1.2.symm.trans h) (by decide)⟩
            · have h3 := h1.all hq
              refine ⟨q, xs, e, hq, hn, fun y hy => (h3.2 y hy).1, fun _ => kf, fun _ => ⟨os, h1, fun H' e' => ?_⟩⟩
              rw [decide_eq_false]
              · exact kf H' e'
              · intro h
                refine h2 ((setN_eq _).mp ?_)
                rw [List.length_map, h1.2.1]
                omega
          · exact .inr (.inl ⟨q, xs, e, hq, hn, hl, kf H (Ext.refl _)⟩)
      · obtain ⟨q, os, e, h1, kt⟩ := hgood hB
        obtain ⟨us, hu, al⟩ := h1.1
        have h3 := h1.all hu
        right; right
        refine ⟨q, us, e, hu, h3.1, fun y hy => (h3.2 y hy).1, fun hf => ?_, fun _ => ⟨os, h1, fun H' e' => ?_⟩⟩
        · exact absurd hf (by rw [List.all_eq_true.mpr fun y hy => (h3.2 y hy).2]; decide)
        · rw [decide_eq_true]
          · exact kt H' e'
          · have hnd : (os.map fun o => o.1).Nodup := Classical.byContradiction fun hnd => hB (.inr ⟨q, us, e, hu, by omega, .inr (.inr ⟨os, h1, hnd⟩)⟩)
            have := (setN_eq _).mpr hnd
            rw [this, List.length_map, h1.2.1]
    clear hbad hgood
    refine ⟨_, (@pss_cons _ _ _ _ _ (@ps_set _ _ (2) _ _ _ _ c_is_order.nd rfl (Or.inr rfl) (@pe_callB _ _ _ _ _ _ _ ("len") _ call_qLen (by rfl) T.z_len (by decide +kernel) (@pa_c _ _ _ _ _ (@pvN _ 0 _ _ (by rfl) (by first | exact Or.inl rfl | exact Or.inr (Or.inl rfl) | exact Or.inr (Or.inr rfl)) (by decide) (by decide)) (@pa_nil _) (by rfl)) (by decide) (by decide) (by rfl) (by rfl)) (by rfl) (by first | exact .inl rfl | exact .inr rfl | assumption)) (@pss_cons _ _ _ _ _ (@ps_if _ _ _ _ _ _ _ _ (PW.pt (@pw_or _ _ _ _ _ _ _ (@pt_not _ _ _ _ (@pt_valN _ _ _ (@pe_callB _ _ _ _ _ _ _ ("isinstance") _ call_qIsi (by rfl) T.z_isinstance (by decide +kernel) (@pa_c _ _ _ _ _ (@pvN _ 1 _ _ (by rfl) (by first | exact Or.inl rfl | exact Or.inr (Or.inl rfl) | exact Or.inr (Or.inr rfl)) (by decide) (by decide)) (@pa_c _ _ _ _ _ (@pe_bltn _ _ (.ty "list") (.type "list") _ (by rfl) T.z_list (by decide +kernel) rfl (by decide) (by decide)) (@pa_nil _) (by rfl)) (by rfl)) (by decide) (by decide) (by rfl) (by rfl)) (by intros; rfl))) (@pw_or _ _ _ _ _ _ _ (@pt_cmpRN _ _ _ _ _ _ _ _ (op_qNe hr.units) (@pe_callB _ _ _ _ _ _ _ ("len") _ call_qLen (by rfl) T.z_len (by decide +kernel) (@pa_c _ _ _ _ _ (@pvN _ 1 _ _ (by rfl) (by first | exact Or.inl rfl | exact Or.inr (Or.inl rfl) | exact Or.inr (Or.inr rfl)) (by decide) (by decide)) (@pa_nil _) (by rfl)) (by decide) (by decide) (by rfl) (by rfl)) (@pvN _ 2 _ _ (by rfl) (by first | exact Or.inl rfl | exact Or.inr (Or.inl rfl) | exact Or.inr (Or.inr rfl)) (by decide) (by decide)) (nomark _)) (@pw_or1 _ _ _ _ (@pt_not _ _ _ _ (@pt_valN _ _ _ (@pe_callB _ _ _ _ _ _ _ ("all") _ (call_qAll rfl) (by rfl) T.z_all (by decide +kernel) (@pa_c _ _ _ _ _ (@pe_comp _ _ _ _ _ _ _ _ _ _ _ (["loop", "sizes", "thing", "many"]) (1) (comp_ok (defScope s_is_order) ["sizes", "thing", "many"] rfl rfl (by decide +kernel)) rfl (@pi_seq _ _ _ _ (@pvN _ 1 _ _ (by rfl) (by first | exact Or.inl rfl | exact Or.inr (Or.inl rfl) | exact Or.inr (Or.inr rfl)) (by decide) (by decide))) (fun C s₀ H₀ ex pn => (@pg_name _ _ (0) _ (show List.Nodup (["loop", "sizes", "thing", "many"] : List Str) from by decide +kernel) rfl (Or.inl rfl) (by first | exact .inl rfl | exact .inr rfl | assumption))) (fun C s₀ H₀ ex pn => (@pts_nil _)) (fun C s₀ H₀ ex pn => (@pe_call _ _ _ _ _ _ _ _ _ _ _ _ _ _ _ _ G_is_loop (hr.mono (by decide)) (by rfl) T.m_is_loop T.F_is_loop.kp T.b_is_loop .nil pass0 (@pa_c _ _ _ _ _ (@pvN _ 0 _ _ (by rfl) (by first | exact Or.inl rfl | exact Or.inr (Or.inl rfl) | exact Or.inr (Or.inr rfl)) (by decide) (by decide)) (@pa_c _ _ _ _ _ (@pvN _ 3 _ _ (by rfl) (by first | exact Or.inl rfl | exact Or.inr (Or.inl rfl) | exact Or.inr (Or.inr rfl)) (by decide) (by decide)) (@pa_nil _) (by rfl)) (by rfl)) (by decide) (by rfl) (by rfl))) (by intros; rfl)) (@pa_nil _) (by rfl)) (by decide) (by decide) (by rfl) (by rfl)) (by intros; rfl))))))) (@pss_one _ _ _ (@ps_ret _ _ _ _ (@pe_bl _ _ _ _))) (@pss_nil _)) (@pss_one _ _ _ (@ps_ret _ _ _ _ (@pe_cmpR _ _ _ _ _ _ _ _ (op_qEq hr.units) (@pe_callB _ _ _ _ _ _ _ ("len") _ call_qLenS (by rfl) T.z_len (by decide +kernel) (@pa_c _ _ _ _ _ (@pe_callTy _ _ _ _ _ _ _ _ _ (call_qSet rfl) (by rfl) T.z_set (by decide +kernel) (@pa_c _ _ _ _ _ (@pe_comp _ _ _ _ _ _ _ _ _ _ _ (["loop", "sizes", "thing", "many"]) (1) (comp_ok (defScope s_is_order) ["sizes", "thing", "many"] rfl rfl (by decide +kernel)) rfl (@pi_seq _ _ _ _ (@pvN _ 1 _ _ (by rfl) (by first | exact Or.inl rfl | exact Or.inr (Or.inl rfl) | exact Or.inr (Or.inr rfl)) (by decide) (by decide))) (fun C s₀ H₀ ex pn => (@pg_name _ _ (0) _ (show List.Nodup (["loop", "sizes", "thing", "many"] : List Str) from by decide +kernel) rfl (Or.inl rfl) (by first | exact .inl rfl | exact .inr rfl | assumption))) (fun C s₀ H₀ ex pn => (@pts_nil _)) (fun C s₀ H₀ ex pn => (@pe_ix _ _ _ _ _ _ _ ix_q (@pvN _ 0 _ _ (by rfl) (by first | exact Or.inl rfl | exact Or.inr (Or.inl rfl) | exact Or.inr (Or.inr rfl)) (by decide) (by decide)) (@pe_int _ _ _ _) (fun _ _ => rfl))) (by intros; rfl)) (@pa_nil _) (by rfl)) (by decide) (by decide) (by rfl) (by rfl)) (@pa_nil _) (by rfl)) (by decide) (by decide) (by rfl) (by rfl)) (@pvN _ 2 _ _ (by rfl) (by first | exact Or.inl rfl | exact Or.inr (Or.inl rfl) | exact Or.inr (Or.inr rfl)) (by decide) (by decide)) (nomark _)))))), ?_⟩
    rw [show start ["sizes", "thing", "many"] [.ref p, x] = [some (.ref p), some (x), none] from rfl]
    rcases hcase with ⟨a, b, k⟩ | ⟨q, xs, rfl, hq, hn, hl, k⟩ | ⟨q, xs, rfl, hq, hn, hth, kf, kt⟩
    · cases x with
      | int i => clear a b; simp_all (failIfUnchanged := false) only [and_true]
      | bl i => clear a b; simp_all (failIfUnchanged := false) only [and_true]
      | non => clear a b; simp_all (failIfUnchanged := false) only [and_true]
      | str i => clear a b; simp_all (failIfUnchanged := false) only [and_true]
      | ref q =>
        obtain ⟨c, hc⟩ := Option.isSome_iff_exists.mp a
        obtain ⟨rfl, o, ho, ht⟩ := isW_obj hc
        clear a hc
        cases o with
        | lst xs => exact absurd rfl (b q _ rfl ho)
        | tup xs => clear b ht; simp_all (failIfUnchanged := false) only [and_true]
        | dK xs => clear b ht; simp_all (failIfUnchanged := false) only [and_true]
        | dT xs => clear b ht; have ht : tyO (.dT xs) = some "dict" := rfl; simp_all (failIfUnchanged := false) only [and_true]
        | frz ob u =>
          cases u with
          | lst ys => exact absurd rfl (b q _ rfl ho)
          | _ => rcases ht with ht | ht | ht <;> cases ht
        | _ => rcases ht with ht | ht | ht <;> cases ht
      | _ => cases a
    · have hl' : ¬ ((xs.length : Int) = (ms.length : Int)) := by omega
      clear hn
      simp_all (failIfUnchanged := false) only [and_true]
    · have hn' : ((xs.length : Int) = (ms.length : Int)) := by omega
      have h20 : xs.length ≤ sizeLine := len5000 (by omega)
      simp_all (failIfUnchanged := false) only [and_true]
      refine comp_fm xs (fun _ => true) (fun y => .bl (loopF (ms.length : Nat) y H)) (fun z x _ => x = z) (fun i z H' hz e => ⟨((wk_lst (K := K) hq).1 i z H' hz e).1, fun x H'' y => ⟨(((wk_lst (K := K) hq).1 i z H' hz e).2 x H'' y).1, (((wk_lst (K := K) hq).1 i z H' hz e).2 x H'' y).2.1⟩⟩) (wk_lst hq).2 h20 ?_ ?_
      · intro D z y H' N1 N0 hz hD e hy k1 _
        subst hy
        have ht := thingOk_ext e (hth y hz)
        have k1' := k1 rfl
        rw [← loopF_ext e (hth y hz)] at k1'
        clear k1 kf kt hth hz hq
        simp_all (failIfUnchanged := false) only [↓m_kCm_1, ↓m_kCm2]
        rw [c_spLoop]
        exact ⟨ht, k1'⟩
      · intro D H1 hD e1 h1
        rw [filt] at h1
        have h1' : H1 D = some (.lst ((xs.map fun y => loopF (ms.length : Nat) y H).map V.bl)) := by rw [h1, List.map_map]; rfl
        have ea : ((xs.map fun y => loopF (ms.length : Nat) y H).all id) = xs.all fun y => loopF (ms.length : Nat) y H := by rw [List.all_map]; rfl
        clear h1 hth
        cases hall : (xs.all fun y => loopF (ms.length : Nat) y H) with
        | false =>
          have k' := kf hall H1 e1
          rw [hall] at ea
          clear kf kt hall
          simp_all (failIfUnchanged := false) only [and_true]
        | true =>
          obtain ⟨os, hos, k'⟩ := kt hall
          rw [hall] at ea
          clear kf kt hall
          obtain ⟨⟨us, hu, al⟩, hol, hob⟩ := hos
          have hu1 := e1.at hu
          have al1 := al.imp fun _ _ z => TupV.ext z e1
          rw [hq] at hu
          cases hu
          clear hq al
          simp_all (failIfUnchanged := false) only [and_true]
          refine comp_fm (os.map fun o => [o.1, o.2]) (fun _ => true) (fun z => .int (z.getD 0 0)) (fun z x H' => TupV H' z x) (wk_al (R := fun z x H' => TupV H' z x) (fun _ _ _ _ h e => TupV.ext h e) hu1 al1).1 (wk_al (R := fun z x H' => TupV H' z x) (fun _ _ _ _ h e => TupV.ext h e) hu1 al1).2 (len5000 (by rw [List.length_map]; omega)) ?_ ?_
          · intro D z y H' N1 N0 hz hD e hy k1 _
            obtain ⟨w, rfl, hw⟩ := hy
            obtain ⟨o, ho, rfl⟩ := List.mem_map.mp hz
            have k1' : N1 (.int o.1) H' := k1 rfl H' (Ext.refl _)
            clear k1 k' hz
            simp_all (failIfUnchanged := false) only [↓m_kCm_1, ↓m_kCm2]
          · intro D2 H2 hD2 e2 h2
            rw [filt, List.map_map] at h2
            have h2' : H2 D2 = some (.lst ((os.map fun o => o.1).map V.int)) := by rw [h2, List.map_map]; rfl
            clear h2
            simp_all (failIfUnchanged := false) only [and_true]
            refine use_set h2' (by rw [List.length_map]; omega) ?_
            intro S H3 hS e3 h3
            have k2 := k' H3 (e1.trans (e2.trans e3))
            clear k'
            simp_all (failIfUnchanged := false) only [and_true]
            refine use_lenS h3 ?_
            simp_all (failIfUnchanged := false) only [and_true]
def szO (ms : List Int) (os : List (Int × Int)) : List Int := os.map fun o => ms.getD o.1.toNat 0
theorem getD_in {ms : List Int} {c : Int} (h0 : 0 ≤ c) (h1 : c < (ms.length : Int)) : ms.getD c.toNat 0 ∈ ms := by
  have hn : c.toNat < ms.length := by omega
  rw [List.getD_eq_getElem?_getD, List.getElem?_eq_getElem hn]
  exact List.getElem_mem hn
theorem szO_ok {ms : List Int} {os : List (Int × Int)} (hs : Sizes ms) (hl : os.length = ms.length) (ho : ∀ o ∈ os, (0 ≤ o.1 ∧ o.1 < (ms.length : Int)) ∧ (o.2 = 1 ∨ o.2 = -1)) : Sizes (szO ms os) := by
  refine ⟨by unfold szO; rw [List.length_map, hl]; exact hs.1, fun n hn => ?_⟩
  obtain ⟨o, h, rfl⟩ := List.mem_map.mp hn
  exact hs.2 _ (getD_in (ho o h).1.1 (ho o h).1.2)
theorem rowsL_row {ns : List Int} {z : List Int} (h : z ∈ rowsL ns) : z.length = ns.length := by
  unfold rowsL at h
  obtain ⟨j, _, rfl⟩ := List.mem_map.mp h
  rw [splitL_len]
def spRefO (cO : Addr) : Sp := fun vs H Q E => ∃ (p : Addr) (x : V), vs = [.ref p, x] ∧ (∃ ms : List Int, H p = some (.lst (ms.map V.int)) ∧ ms.length ≤ 8 ∧ (BadOrd ms.length H x → ∀ H', Ext H H' → E (.ref cO) none H') ∧ (¬ BadOrd ms.length H x → ∃ q os, x = .ref q ∧ LoopsAt ms.length H q os ∧ ∀ H', Ext H H' → Q .non H'))
theorem c_spRefO (cO : Addr) (p : Addr) (x : V) (H : Hp) (Q : VK) (E : XK) : spRefO cO [.ref p, x] H Q E = (∃ ms : List Int, H p = some (.lst (ms.map V.int)) ∧ ms.length ≤ 8 ∧ (BadOrd ms.length H x → ∀ H', Ext H H' → E (.ref cO) none H') ∧ (¬ BadOrd ms.length H x → ∃ q os, x = .ref q ∧ LoopsAt ms.length H q os ∧ ∀ H', Ext H H' → Q .non H')) := spx2 (f := fun (p : Addr) (x : V) => [.ref p, x]) (fun _ _ _ _ h => by cases h; exact ⟨rfl, rfl⟩) p x
theorem l_spRefO (cO : Addr) {vs : List V} {H : Hp} {Q : VK} {E : XK} (h : spRefO cO vs H Q E) : vs.length = 2 := spl2 h fun _ _ => rfl
theorem ok_refuse_order (T : Tx K mg t) : FnOk P w K mg base (CX1 P w) 5 t.a_refuse_order t.d_refuse_order ["sizes", "order"] (spRefO t.a_NoOrder) := by
  have G_is_order := ok_is_order (P := P) (w := w) (base := base) T
  refine T.F_refuse_order.ok c_refuse_order (fun vs H Q E h => l_spRefO _ h) (fun cdv A outer s H vs Q E hr h => ?_)
  · obtain ⟨p, x, rfl, ms, hp, h8, hbad, hgood⟩ := h
    refine ⟨_, (@pss_one _ _ _ (@ps_if _ _ _ _ _ _ _ _ (@pt_not _ _ _ _ (@pt_valN _ _ _ (@pe_call _ _ _ _ _ _ _ _ _ _ _ _ _ _ _ _ G_is_order (hr.mono (by decide)) (by rfl) T.m_is_order T.F_is_order.kp T.b_is_order .nil pass0 (@pa_c _ _ _ _ _ (@pvN _ 0 _ _ (by rfl) (by first | exact Or.inl rfl | exact Or.inr (Or.inl rfl) | exact Or.inr (Or.inr rfl)) (by decide) (by decide)) (@pa_c _ _ _ _ _ (@pvN _ 1 _ _ (by rfl) (by first | exact Or.inl rfl | exact Or.inr (Or.inl rfl) | exact Or.inr (Or.inr rfl)) (by decide) (by decide)) (@pa_nil _) (by rfl)) (by rfl)) (by decide) (by rfl) (by rfl)) (by intros; rfl))) (@pss_one _ _ _ (@ps_raise _ _ _ _ _ _ _ _ _ _ rfl (by rfl) T.m_NoOrder ⟨T.o_NoOrder⟩ (fun σ => raises_def) (@pa_c _ _ _ _ _ (@pe_str _ _ _ _) (@pa_nil _) (by rfl)) (by rfl) (by rfl) (by decide))) (@pss_nil _))), ?_⟩
    rw [show start ["sizes", "order"] [.ref p, x] = [some (.ref p), some (x)] from rfl]
    simp_all (failIfUnchanged := false) only [and_true]
    rw [c_spIsOrder]
    refine ⟨ms, hp, h8, fun hB H1 e1 => ?_, fun hB => ?_⟩
    · have k' := hbad hB H1 e1
      clear hbad hgood
      simp_all (failIfUnchanged := false) only [and_true]
    · obtain ⟨q, os, e, h1, k⟩ := hgood hB
      refine ⟨q, os, e, h1, fun H1 e1 => ?_⟩
      have k' := k H1 e1
      clear hbad hgood k
      simp_all (failIfUnchanged := false) only [and_true]
def spWalkOf (cO cT : Addr) : Sp := fun vs H Q E => ∃ (p : Addr) (x : V), vs = [.ref p, x] ∧ (∃ ms : List Int, H p = some (.lst (ms.map V.int)) ∧ Sizes ms ∧ (BadOrd ms.length H x → ∀ H', Ext H H' → E (.ref cO) none H') ∧ (¬ BadOrd ms.length H x → ∃ q os, x = .ref q ∧ LoopsAt ms.length H q os ∧ (prodL (szO ms os) ≤ 4096 → ∀ (r : Addr) (H' : Hp), H r = none → Ext H H' → TupsAt H' r ((rowsL (szO ms os)).map fun ys => placeW ms os ys) → Q (.ref r) H') ∧ (4096 < prodL (szO ms os) → ∀ dx H', Ext H H' → H' dx = some (.xd [("number", .int (prodL (szO ms os)))]) → E (.ref cT) (some dx) H')))
theorem c_spWalkOf (cO cT : Addr) (p : Addr) (x : V) (H : Hp) (Q : VK) (E : XK) : spWalkOf cO cT [.ref p, x] H Q E = (∃ ms : List Int, H p = some (.lst (ms.map V.int)) ∧ Sizes ms ∧ (BadOrd ms.length H x → ∀ H', Ext H H' → E (.ref cO) none H') ∧ (¬ BadOrd ms.length H x → ∃ q os, x = .ref q ∧ LoopsAt ms.length H q os ∧ (prodL (szO ms os) ≤ 4096 → ∀ (r : Addr) (H' : Hp), H r = none → Ext H H' → TupsAt H' r ((rowsL (szO ms os)).map fun ys => placeW ms os ys) → Q (.ref r) H') ∧ (4096 < prodL (szO ms os) → ∀ dx H', Ext H H' → H' dx = some (.xd [("number", .int (prodL (szO ms os)))]) → E (.ref cT) (some dx) H'))) := spx2 (f := fun (p : Addr) (x : V) => [.ref p, x]) (fun _ _ _ _ h => by cases h; exact ⟨rfl, rfl⟩) p x
theorem l_spWalkOf (cO cT : Addr) {vs : List V} {H : Hp} {Q : VK} {E : XK} (h : spWalkOf cO cT vs H Q E) : vs.length = 2 := spl2 h fun _ _ => rfl
theorem ok_walk_of (T : Tx K mg t) : FnOk P w K mg base (CX1 P w) 6 t.a_walk_of t.d_walk_of ["sizes", "order"] (spWalkOf t.a_NoOrder t.a_TooMany) := by
  have G_refuse_order := ok_refuse_order (P := P) (w := w) (base := base) T
  have G_places := ok_places (P := P) (w := w) (base := base) T
  have G_place_by_steps := ok_place_by_steps (P := P) (w := w) (base := base) T
  refine T.F_walk_of.ok c_walk_of (fun vs H Q E h => l_spWalkOf _ _ h) (fun cdv A outer s H vs Q E hr h => ?_)
  · obtain ⟨p, x, rfl, ms, hp, hs, hbad, hgood⟩ := h
    refine ⟨_, (@pss_cons _ _ _ _ _ (@ps_expr _ _ _ _ (@pe_call _ _ _ _ _ _ _ _ _ _ _ _ _ _ _ _ G_refuse_order (hr.mono (by decide)) (by rfl) T.m_refuse_order T.F_refuse_order.kp T.b_refuse_order .nil passes_def (@pa_c _ _ _ _ _ (@pvN _ 0 _ _ (by rfl) (by first | exact Or.inl rfl | exact Or.inr (Or.inl rfl) | exact Or.inr (Or.inr rfl)) (by decide) (by decide)) (@pa_c _ _ _ _ _ (@pvN _ 1 _ _ (by rfl) (by first | exact Or.inl rfl | exact Or.inr (Or.inl rfl) | exact Or.inr (Or.inr rfl)) (by decide) (by decide)) (@pa_nil _) (by rfl)) (by rfl)) (by decide) (by rfl) (by rfl)) (by rfl)) (@pss_cons _ _ _ _ _ (@ps_set _ _ (2) _ _ _ _ c_walk_of.nd rfl (Or.inl rfl) (@pe_call _ _ _ _ _ _ _ _ _ _ _ _ _ _ _ _ G_places (hr.mono (by decide)) (by rfl) T.m_places T.F_places.kp T.b_places .nil passes_def (@pa_c _ _ _ _ _ (@pe_comp _ _ _ _ _ _ _ _ _ _ _ (["loop", "sizes", "order", "walk"]) (1) (comp_ok (defScope s_walk_of) ["sizes", "order", "walk"] rfl rfl (by decide +kernel)) rfl (@pi_seq _ _ _ _ (@pvN _ 1 _ _ (by rfl) (by first | exact Or.inl rfl | exact Or.inr (Or.inl rfl) | exact Or.inr (Or.inr rfl)) (by decide) (by decide))) (fun C s₀ H₀ ex pn => (@pg_name _ _ (0) _ (show List.Nodup (["loop", "sizes", "order", "walk"] : List Str) from by decide +kernel) rfl (Or.inl rfl) (by first | exact .inl rfl | exact .inr rfl | assumption))) (fun C s₀ H₀ ex pn => (@pts_nil _)) (fun C s₀ H₀ ex pn => (@pe_ix _ _ _ _ _ _ _ ix_q (@pvN _ 1 _ _ (by rfl) (by first | exact Or.inl rfl | exact Or.inr (Or.inl rfl) | exact Or.inr (Or.inr rfl)) (by decide) (by decide)) (@pe_ix _ _ _ _ _ _ _ ix_q (@pvN _ 0 _ _ (by rfl) (by first | exact Or.inl rfl | exact Or.inr (Or.inl rfl) | exact Or.inr (Or.inr rfl)) (by decide) (by decide)) (@pe_int _ _ _ _) (fun _ _ => rfl)) (fun _ _ => rfl))) (by intros; rfl)) (@pa_nil _) (by rfl)) (by decide) (by rfl) (by rfl)) (by rfl) (by first | exact .inl rfl | exact .inr rfl | assumption)) (@pss_one _ _ _ (@ps_ret _ _ _ _ (@pe_comp _ _ _ _ _ _ _ _ _ _ _ (["steps", "sizes", "order", "walk"]) (1) (comp_ok (defScope s_walk_of) ["sizes", "order", "walk"] rfl rfl (by decide +kernel)) rfl (@pi_seq _ _ _ _ (@pvN _ 2 _ _ (by rfl) (by first | exact Or.inl rfl | exact Or.inr (Or.inl rfl) | exact Or.inr (Or.inr rfl)) (by decide) (by decide))) (fun C s₀ H₀ ex pn => (@pg_name _ _ (0) _ (show List.Nodup (["steps", "sizes", "order", "walk"] : List Str) from by decide +kernel) rfl (Or.inl rfl) (by first | exact .inl rfl | exact .inr rfl | assumption))) (fun C s₀ H₀ ex pn => (@pts_nil _)) (fun C s₀ H₀ ex pn => (@pe_call _ _ _ _ _ _ _ _ _ _ _ _ _ _ _ _ G_place_by_steps (hr.mono (by decide)) (by rfl) T.m_place_by_steps T.F_place_by_steps.kp T.b_place_by_steps .nil pass0 (@pa_c _ _ _ _ _ (@pvN _ 1 _ _ (by rfl) (by first | exact Or.inl rfl | exact Or.inr (Or.inl rfl) | exact Or.inr (Or.inr rfl)) (by decide) (by decide)) (@pa_c _ _ _ _ _ (@pvN _ 2 _ _ (by rfl) (by first | exact Or.inl rfl | exact Or.inr (Or.inl rfl) | exact Or.inr (Or.inr rfl)) (by decide) (by decide)) (@pa_c _ _ _ _ _ (@pvN _ 0 _ _ (by rfl) (by first | exact Or.inl rfl | exact Or.inr (Or.inl rfl) | exact Or.inr (Or.inr rfl)) (by decide) (by decide)) (@pa_nil _) (by rfl)) (by rfl)) (by rfl)) (by decide) (by rfl) (by rfl))) (by intros; rfl)))))), ?_⟩
    rw [show start ["sizes", "order", "walk"] [.ref p, x] = [some (.ref p), some (x), none] from rfl]
    simp_all (failIfUnchanged := false) only [and_true]
    rw [c_spRefO]
    refine ⟨ms, hp, hs.1, hbad, fun hB => ?_⟩
    obtain ⟨q, os, e, h1, k1, k2⟩ := hgood hB
    refine ⟨q, os, e, h1, fun H1 e1 => ?_⟩
    subst e
    clear hbad hgood hB
    obtain ⟨⟨us, hu, al⟩, hol, hob⟩ := h1
    have hu1 := e1.at hu
    have hp1 := e1.at hp
    have al1 := al.imp fun _ _ z => TupV.ext z e1
    have h8 := hs.1
    simp_all (failIfUnchanged := false) only [and_true]
    refine comp_fm (os.map fun o => [o.1, o.2]) (fun _ => true) (fun z => .int (ms.getD (z.getD 0 0).toNat 0)) (fun z x H' => TupV H' z x) (wk_al (R := fun z x H' => TupV H' z x) (fun _ _ _ _ h e => TupV.ext h e) hu1 al1).1 (wk_al (R := fun z x H' => TupV H' z x) (fun _ _ _ _ h e => TupV.ext h e) hu1 al1).2 (len5000 (by rw [List.length_map]; omega)) ?_ ?_
    · intro D z y H' N1 N0 hz hD e hy kk _
      obtain ⟨w, rfl, hw⟩ := hy
      obtain ⟨o, ho, rfl⟩ := List.mem_map.mp hz
      have k1' : N1 (.int (ms.getD o.1.toNat 0)) H' := kk rfl H' (Ext.refl _)
      have hp' := e.at hp1
      have hat := at_vals (vals := ms) (hob o ho).1.1 (hob o ho).1.2
      clear kk k1 k2 hz hob hp hp1 hu hu1
      simp_all (failIfUnchanged := false) only [↓m_kCm_1, ↓m_kCm2]
    · intro D H2 hD e2 h2
      rw [filt, List.map_map] at h2
      have h2' : H2 D = some (.lst ((szO ms os).map V.int)) := by rw [h2]; unfold szO; rw [List.map_map]; rfl
      have hso := szO_ok hs hol hob
      have e02 := e1.trans e2
      have hp2 := e2.at hp1
      have hu2 := e2.at hu1
      have al2 := al1.imp fun _ _ z => TupV.ext z e2
      clear h2 hp1 hu1 al1
      simp_all (failIfUnchanged := false) only [↓c_spPlaces, ↓m_kSz]
      rw [x_kAllP]
      refine ⟨fun hn W H3 hW e3 h3 => ?_, fun hn dx H3 e3 h3 => k2 hn dx H3 (e02.trans e3) h3⟩
      have k1' := k1 hn
      clear k1 k2
      obtain ⟨ws, hw3, al3⟩ := h3
      have hp3 := e3.at hp2
      have hu3 := e3.at hu2
      have hal3 := al2.imp fun _ _ z => TupV.ext z e3
      have hrl : (rowsL (szO ms os)).length ≤ 4096 := by rw [rowsL_len]; omega
      clear h2' hp2 hu2 al2
      simp_all (failIfUnchanged := false) only [and_true]
      refine comp_rel (rowsL (szO ms os)) (fun _ => true) (fun z x H' => TupV H' z x) (fun D z y H' => ∃ q, y = .ref q ∧ q ≠ D ∧ H' q = some (.tup ((placeW ms os z).map V.int))) (wk_al (R := fun z x H' => TupV H' z x) (fun _ _ _ _ h e => TupV.ext h e) hw3 al3).1 (wk_al (R := fun z x H' => TupV H' z x) (fun _ _ _ _ h e => TupV.ext h e) hw3 al3).2 (fun D _ y H1 H2 ⟨q, h1, h2, h3⟩ e => ⟨q, h1, h2, e.at h3⟩) (fun D _ y H1 o ⟨q, h1, h2, h3⟩ => ⟨q, h1, h2, by rw [upd_ne h2]; exact h3⟩) (len5000 (by omega)) ?_ ?_
      · intro D2 z y H' N1 N0 hz hD2 e ⟨ys0, hys0⟩ hx kk _
        obtain ⟨w, rfl, hw⟩ := hx
        have kk' := kk rfl
        have hp' := e.at hp3
        have hu' := e.at hu3
        have al' := hal3.imp fun _ _ z => TupV.ext z e
        have hzl := rowsL_row hz
        clear kk hp3 hu3 hal3 k1' hw3 al3 hz
        simp_all (failIfUnchanged := false) only [↓m_kCm_1, ↓m_kCm2]
        rw [c_spBySteps]
        refine ⟨ms, os, z, hp', ⟨us, hu', al'⟩, hw, h8, by rw [hzl]; unfold szO; rw [List.length_map], fun o ho => (hob o ho).1, fun r H4 hr4 e4 h4 => ?_⟩
        exact kk' _ H4 e4 ⟨r, rfl, (fun z => by rw [z, hys0] at hr4; cases hr4), h4⟩
      · intro D2 ys H4 hD2 e4 hD4 al4
        rw [filt] at al4
        have e4' := e02.trans e3
        refine k1' D2 H4 (e4'.free hD2) (e4'.trans e4) ⟨ys, hD4, ?_, fun i z y hz hy => ?_⟩
        · rw [al4.1, List.length_map]
        · rw [List.getElem?_map] at hz
          obtain ⟨j, hj, rfl⟩ := Option.map_eq_some_iff.mp hz
          obtain ⟨q, h1, _, h3⟩ := al4.2 i j y hj hy
          exact ⟨q, h1, h3⟩
def wayL (ms : List Int) (o : Int × Int) : List Int := (List.range (ms.getD o.1.toNat 0).toNat).map fun (k : Nat) => stepL ms o (k : Int)
def walkM (ms : List Int) (os : List (Int × Int)) : List (List Int) := os.foldl (fun fs o => fs.flatMap fun pl => (wayL ms o).map fun k => pl.set o.1.toNat k) [List.replicate ms.length 0]
theorem walkM_snoc (ms : List Int) (os : List (Int × Int)) (o : Int × Int) : walkM ms (os ++ [o]) = (walkM ms os).flatMap fun pl => (wayL ms o).map fun k => pl.set o.1.toNat k := by
  unfold walkM; rw [List.foldl_append]; rfl
theorem placeW_snoc (ms : List Int) (os : List (Int × Int)) (o : Int × Int) (ys : List Int) (y : Int) (h : ys.length = os.length) : placeW ms (os ++ [o]) (ys ++ [y]) = (placeW ms os ys).set o.1.toNat (stepL ms o y) := by
  unfold placeW
  rw [List.zip_append (by omega), List.foldl_append]
  rfl
theorem flatMap_same {α β : Type} {f g : α → List β} : ∀ {l : List α}, (∀ x ∈ l, f x = g x) → l.flatMap f = l.flatMap g
  | [], _ => rfl
  | x :: l, h => by rw [List.flatMap_cons, List.flatMap_cons, h x List.mem_cons_self, flatMap_same fun y hy => h y (List.mem_cons_of_mem _ hy)]
theorem walk_eq (ms : List Int) (hs : ∀ n ∈ ms, 1 ≤ n ∧ n ≤ 1000000000) (os : List (Int × Int)) (ho : ∀ o ∈ os, 0 ≤ o.1 ∧ o.1 < (ms.length : Int)) : (rowsL (szO ms os)).map (fun ys => placeW ms os ys) = walkM ms os := by
  suffices h : ∀ (n : Nat) (os : List (Int × Int)), os.length = n → (∀ o ∈ os, 0 ≤ o.1 ∧ o.1 < (ms.length : Int)) → (rowsL (szO ms os)).map (fun ys => placeW ms os ys) = walkM ms os from h _ os rfl ho
  intro n
  induction n with
  | zero =>
    intro os h _
    have : os = [] := List.length_eq_zero_iff.mp h
    subst this
    rfl
  | succ n ih =>
    intro os h ho
    obtain ⟨as, o, rfl⟩ : ∃ as o, os = as ++ [o] := ⟨os.dropLast, os.getLast (by intro e; rw [e] at h; simp at h), (List.dropLast_concat_getLast _).symm⟩
    have hal : as.length = n := by rw [List.length_append, List.length_singleton] at h; omega
    have ih' := ih as hal fun o h => ho o (List.mem_append_left _ h)
    have hoo := ho o (List.mem_append_right _ (List.mem_singleton.mpr rfl))
    have hm := hs _ (getD_in hoo.1 hoo.2)
    have hso : ∀ n ∈ szO ms as, 1 ≤ n ∧ n ≤ 1000000000 := fun n hn => by
      obtain ⟨o, h, rfl⟩ := List.mem_map.mp hn
      have := ho o (List.mem_append_left _ h)
      exact hs _ (getD_in this.1 this.2)
    have e1 : szO ms (as ++ [o]) = szO ms as ++ [ms.getD o.1.toNat 0] := by unfold szO; rw [List.map_append]; rfl
    rw [e1, rowsL_snoc _ _ (by have := prodL_pos _ hso; omega) (by omega), walkM_snoc, ← ih', List.map_flatMap, List.flatMap_map]
    refine flatMap_same fun row hr => ?_
    have hrl := rowsL_row hr
    rw [List.map_map]
    unfold wayL
    rw [List.map_map]
    refine List.map_congr_left fun k _ => ?_
    show placeW ms (as ++ [o]) (row ++ [(k : Int)]) = _
    rw [placeW_snoc _ _ _ _ _ (by rw [hrl]; unfold szO; rw [List.length_map])]
    rfl
theorem rev_ints (n : Nat) : ((List.range n).map fun (k : Nat) => (k : Int)).reverse = (List.range n).map fun (k : Nat) => (n : Int) - 1 - (k : Int) := by
  refine List.ext_getElem (by simp) fun i h1 h2 => ?_
  simp at h1 h2 ⊢
  omega
theorem way_one (ms : List Int) (o : Int × Int) (h : o.2 = 1) (h0 : 0 ≤ ms.getD o.1.toNat 0) : rngV (ms.getD o.1.toNat 0) = (wayL ms o).map V.int := by
  unfold rngV wayL stepL
  rw [List.map_map, h]
  rfl
theorem way_rev (ms : List Int) (o : Int × Int) (h : o.2 = -1) (h0 : 0 ≤ ms.getD o.1.toNat 0) : (rngV (ms.getD o.1.toNat 0)).reverse = (wayL ms o).map V.int := by
  have e1 : rngV (ms.getD o.1.toNat 0) = ((List.range (ms.getD o.1.toNat 0).toNat).map fun (k : Nat) => (k : Int)).map V.int := by unfold rngV; rw [List.map_map]; rfl
  have e2 : (wayL ms o) = (List.range (ms.getD o.1.toNat 0).toNat).map fun (k : Nat) => (((ms.getD o.1.toNat 0).toNat : Nat) : Int) - 1 - (k : Int) := by
    unfold wayL stepL
    rw [h, Int.toNat_of_nonneg h0]
    refine List.map_congr_left fun k _ => ?_
    rw [if_neg (by decide)]
  rw [e1, ← List.map_reverse, rev_ints, e2]
theorem walkM_row {ms : List Int} : ∀ {os : List (Int × Int)} {z : List Int}, z ∈ walkM ms os → z.length = ms.length := by
  intro os
  unfold walkM
  suffices h : ∀ (os : List (Int × Int)) (fs : List (List Int)), (∀ z ∈ fs, z.length = ms.length) → ∀ z ∈ os.foldl (fun fs o => fs.flatMap fun pl => (wayL ms o).map fun k => pl.set o.1.toNat k) fs, z.length = ms.length from fun {z} hz => h os _ (fun z hz => by rw [List.mem_singleton.mp hz, List.length_replicate]) z hz
  intro os
  induction os with
  | nil => exact fun fs h => h
  | cons o os ih =>
    intro fs h
    refine ih _ fun z hz => ?_
    obtain ⟨pl, hp, hz⟩ := List.mem_flatMap.mp hz
    obtain ⟨k, _, rfl⟩ := List.mem_map.mp hz
    rw [List.length_set]
    exact h pl hp
theorem set_cut (pl : List Int) (a : Nat) (k : Int) (h : a < pl.length) : pl.take a ++ [k] ++ pl.drop (a + 1) = pl.set a k := by
  rw [List.set_eq_take_append_cons_drop, if_pos h, List.append_assoc]
  rfl
theorem nat_mul_toNat {a b : Int} (ha : 0 ≤ a) (hb : 0 ≤ b) : a.toNat * b.toNat = (a * b).toNat := by
  obtain ⟨x, rfl⟩ := Int.eq_ofNat_of_zero_le ha
  obtain ⟨y, rfl⟩ := Int.eq_ofNat_of_zero_le hb
  rfl
theorem szO_step {ms : List Int} {os : List (Int × Int)} {i : Nat} {o : Int × Int} (hi : os[i]? = some o) (hs : ∀ n ∈ szO ms os, 1 ≤ n ∧ n ≤ 1000000000) (hc : prodL (szO ms os) ≤ 4096) : (rowsL (szO ms (os.take i))).length * (ms.getD o.1.toNat 0).toNat ≤ 4096 ∧ (rowsL (szO ms (os.take i))).length ≤ 4096 ∧ ms.getD o.1.toNat 0 ≤ 4096 := by
  have e1 : szO ms (os.take i) = (szO ms os).take i := by unfold szO; rw [List.map_take]
  have hm : (szO ms os)[i]? = some (ms.getD o.1.toNat 0) := by unfold szO; rw [List.getElem?_map, hi]; rfl
  have hn := hs _ (List.mem_of_getElem? hm)
  have q1 := prodL_take_le (szO ms os) hs (i + 1)
  rw [List.take_add_one, hm, Option.toList_some, prodL_append, show prodL [ms.getD o.1.toNat 0] = ms.getD o.1.toNat 0 by simp [prodL]] at q1
  have q2 := (prodL_pos ((szO ms os).take i) fun n hn => hs n (List.mem_of_mem_take hn)).1
  rw [e1, rowsL_len]
  generalize prodL ((szO ms os).take i) = a at *
  generalize ms.getD o.1.toNat 0 = b at *
  have q3 := nat_mul_toNat (a := a) (b := b) (by omega) (by omega)
  have q4 := Int.mul_le_mul_of_nonneg_left hn.1 (show (0 : Int) ≤ a by omega)
  have q5 := Int.mul_le_mul_of_nonneg_right q2 (show (0 : Int) ≤ b by omega)
  omega
theorem walkM_len {ms : List Int} {os : List (Int × Int)} (hs : ∀ n ∈ ms, 1 ≤ n ∧ n ≤ 1000000000) (ho : ∀ o ∈ os, 0 ≤ o.1 ∧ o.1 < (ms.length : Int)) : (walkM ms os).length = (rowsL (szO ms os)).length := by
  rw [← walk_eq ms hs os ho, List.length_map]
theorem getElem?_zs {zs : List (List Int)} {ys : List V} {H : Hp} (al : Al (TupV H) zs ys) {i : Nat} {y : V} (h : ys[i]? = some y) : ∃ z, zs[i]? = some z ∧ TupV H z y := by
  have hi : i < ys.length := (List.getElem?_eq_some_iff.mp h).1
  have hz : zs[i]? = some (zs[i]'(by rw [← al.1]; exact hi)) := List.getElem?_eq_getElem _
  exact ⟨_, hz, al.2 i _ y hz h⟩
theorem flat_step {α β : Type} (zs : List α) (f : α → List β) (j : Nat) (z : α) (h : zs[j]? = some z) : (zs.take (j + 1)).flatMap f = (zs.take j).flatMap f ++ f z := by
  rw [List.take_succ, h, List.flatMap_append]; simp
theorem flat_len {α β : Type} (zs : List α) (f : α → List β) (n : Nat) (hf : ∀ z ∈ zs, (f z).length = n) : ∀ j : Nat, ((zs.take j).flatMap f).length ≤ zs.length * n := by
  intro j
  have e : ∀ l : List α, (∀ z ∈ l, (f z).length = n) → (l.flatMap f).length = l.length * n := by
    intro l
    induction l with
    | nil => simp
    | cons a r ih => intro h; rw [List.flatMap_cons, List.length_append, ih fun z hz => h z (List.mem_cons_of_mem _ hz), h a List.mem_cons_self, List.length_cons, Nat.succ_mul, Nat.add_comm]
  rw [e _ fun z hz => hf z (List.mem_of_mem_take hz)]
  exact Nat.mul_le_mul_right n (by rw [List.length_take]; omega)
theorem al_app {α : Type} {R : α → V → Prop} {zs ws : List α} {ys us : List V} (h : Al R zs ys) (h' : Al R ws us) : Al R (zs ++ ws) (ys ++ us) := by
  refine ⟨by rw [List.length_append, List.length_append, h.1, h'.1], fun i z y hz hy => ?_⟩
  by_cases hi : i < zs.length
  · rw [List.getElem?_append_left hi] at hz
    rw [List.getElem?_append_left (by rw [h.1]; exact hi)] at hy
    exact h.2 i z y hz hy
  · rw [List.getElem?_append_right (by omega)] at hz
    rw [List.getElem?_append_right (by rw [h.1]; omega), h.1] at hy
    exact h'.2 _ z y hz hy
theorem kns_take {xs : List V} {n : Int} {H : Hp} {Q : VK} (h0 : 0 ≤ n) (h1 : n < xs.length) (q : newK (.tup (xs.take n.toNat)) H Q) : kNST none (some n) H Q xs := by
  obtain ⟨k, rfl⟩ := Int.eq_ofNat_of_zero_le h0
  refine ⟨fun e => ?_, ?_⟩
  · have := e.2
    rw [HT.sIx_nat] at this
    omega
  · rw [cut_none xs _ h0]
    exact q
theorem kns_drop {xs : List V} {n : Int} {H : Hp} {Q : VK} (h0 : 1 ≤ n) (h1 : n ≤ xs.length) (q : newK (.tup (xs.drop n.toNat)) H Q) : kNST (some n) none H Q xs := by
  obtain ⟨k, rfl⟩ := Int.eq_ofNat_of_zero_le (show 0 ≤ n by omega)
  refine ⟨fun e => ?_, ?_⟩
  · have := e.1
    rw [HT.sIx_nat] at this
    omega
  · rw [cut_some xs _ (show (0 : Int) ≤ (k : Int) by omega)]
    exact q
def spWalk  : Sp := fun vs H Q E => ∃ (p : Addr) (q : Addr), vs = [.ref p, .ref q] ∧ (∃ (ms : List Int) (os : List (Int × Int)), H p = some (.lst (ms.map V.int)) ∧ Sizes ms ∧ LoopsAt ms.length H q os ∧ prodL (szO ms os) ≤ 4096 ∧ ∀ (r : Addr) (H' : Hp), Ext H H' → TupsAt H' r (walkM ms os) → Q (.ref r) H')
theorem c_spWalk  (p : Addr) (q : Addr) (H : Hp) (Q : VK) (E : XK) : spWalk  [.ref p, .ref q] H Q E = (∃ (ms : List Int) (os : List (Int × Int)), H p = some (.lst (ms.map V.int)) ∧ Sizes ms ∧ LoopsAt ms.length H q os ∧ prodL (szO ms os) ≤ 4096 ∧ ∀ (r : Addr) (H' : Hp), Ext H H' → TupsAt H' r (walkM ms os) → Q (.ref r) H') := spx2 (f := fun (p : Addr) (q : Addr) => [.ref p, .ref q]) (fun _ _ _ _ h => by cases h; exact ⟨rfl, rfl⟩) p q
theorem l_spWalk  {vs : List V} {H : Hp} {Q : VK} {E : XK} (h : spWalk  vs H Q E) : vs.length = 2 := spl2 h fun _ _ => rfl
theorem ok__law_walk (T : Tx K mg t) : FnOk P w K mg base CX0 1 t.a__law_walk t.d__law_walk ["_law_sizes", "_law_order_here"] spWalk := by
  refine T.F__law_walk.ok c__law_walk (fun vs H Q E h => l_spWalk h) (fun cdv A outer s H vs Q E hr h => ?_)
  · obtain ⟨p, q, rfl, ms, os, hp, hs, ⟨⟨us, hu, al⟩, hol, hob⟩, hc, kk⟩ := h
    refine ⟨_, (@pss_cons _ _ _ _ _ (@ps_set _ _ (2) _ _ _ _ c__law_walk.nd rfl (Or.inl rfl) (@pe_qLst _ _ _ _ (@pa_c _ _ _ _ _ (@pe_callTy _ _ _ _ _ _ _ _ _ call_nTuple (by rfl) T.z_tuple (by decide +kernel) (@pa_c _ _ _ _ _ (@pe_op _ _ _ _ _ _ _ _ op_nRep (@pe_qLst _ _ _ _ (@pa_c _ _ _ _ _ (@pe_int _ _ _ _) (@pa_nil _) (by rfl))) (@pe_callB _ _ _ _ _ _ _ ("len") _ call_qLen (by rfl) T.z_len (by decide +kernel) (@pa_c _ _ _ _ _ (@pvN _ 0 _ _ (by rfl) (by first | exact Or.inl rfl | exact Or.inr (Or.inl rfl) | exact Or.inr (Or.inr rfl)) (by decide) (by decide)) (@pa_nil _) (by rfl)) (by decide) (by decide) (by rfl) (by rfl))) (@pa_nil _) (by rfl)) (by decide) (by decide) (by rfl) (by rfl)) (@pa_nil _) (by rfl))) (by rfl) (by first | exact .inl rfl | exact .inr rfl | assumption)) (@pss_cons _ _ _ _ _ (@ps_for _ _ _ _ _ _ _ _ PassesOwn.never rfl (@pi_seq _ _ _ _ (@pvN _ 1 _ _ (by rfl) (by first | exact Or.inl rfl | exact Or.inr (Or.inl rfl) | exact Or.inr (Or.inr rfl)) (by decide) (by decide))) ((@pg_tup _ _ _ _ _ (2) rfl (@pgs_consN _ _ _ _ _ (@pg_name _ _ (3) _ c__law_walk.nd rfl (Or.inr rfl) (by first | exact .inl rfl | exact .inr rfl | assumption)) (@pgs_consN _ _ _ _ _ (@pg_name _ _ (4) _ c__law_walk.nd rfl (Or.inl rfl) (by first | exact .inl rfl | exact .inr rfl | assumption)) (@pgs_nilN _) (by rfl)) (by rfl)) (by rfl) (by rfl)).mono fun _ _ _ _ h => gTup_q h) (@pss_cons _ _ _ _ _ (@ps_set _ _ (5) _ _ _ _ c__law_walk.nd rfl (Or.inl rfl) (@pe_listrange _ _ _ _ _ _ _ rfl (by rfl) T.z_list (by rfl) T.z_range (@pa_c _ _ _ _ _ (@pe_ix _ _ _ _ _ _ _ ix_q (@pvN _ 0 _ _ (by rfl) (by first | exact Or.inl rfl | exact Or.inr (Or.inl rfl) | exact Or.inr (Or.inr rfl)) (by decide) (by decide)) (@pvN _ 3 _ _ (by rfl) (by first | exact Or.inl rfl | exact Or.inr (Or.inl rfl) | exact Or.inr (Or.inr rfl)) (by decide) (by decide)) (fun _ _ => rfl)) (@pa_nil _) (by rfl)) (by rfl) (by rfl) (by rfl)) (by rfl) (by first | exact .inl rfl | exact .inr rfl | assumption)) (@pss_cons _ _ _ _ _ (@ps_if _ _ _ _ _ _ _ _ (@pt_cmpRN _ _ _ _ _ _ _ _ (op_qEq hr.units) (@pvN _ 4 _ _ (by rfl) (by first | exact Or.inl rfl | exact Or.inr (Or.inl rfl) | exact Or.inr (Or.inr rfl)) (by decide) (by decide)) (@pe_un _ _ _ _ _ _ un_negN (@pe_int _ _ _ _)) (nomark _)) (@pss_one _ _ _ (@ps_expr _ _ _ _ (@pe_bm0 _ _ _ _ _ _ _ _ _ PySem.F.plainAttrs_list PySem.F.slot_list_reverse PySem.F.type_list_reverse mt_reverse (@pvN _ 5 _ _ (by rfl) (by first | exact Or.inl rfl | exact Or.inr (Or.inl rfl) | exact Or.inr (Or.inr rfl)) (by decide) (by decide)) (by rfl) (by rfl)) (by rfl))) (@pss_nil _)) (@pss_cons _ _ _ _ _ (@ps_set _ _ (6) _ _ _ _ c__law_walk.nd rfl (Or.inl rfl) (@pe_qLst _ _ _ _ (@pa_nil _)) (by rfl) (by first | exact .inl rfl | exact .inr rfl | assumption)) (@pss_cons _ _ _ _ _ (@ps_for _ _ _ _ _ _ _ _ PassesOwn.never rfl (@pi_seq _ _ _ _ (@pvN _ 2 _ _ (by rfl) (by first | exact Or.inl rfl | exact Or.inr (Or.inl rfl) | exact Or.inr (Or.inr rfl)) (by decide) (by decide))) (@pg_name _ _ (7) _ c__law_walk.nd rfl (Or.inr rfl) (by first | exact .inl rfl | exact .inr rfl | assumption)) (@pss_one _ _ _ (@ps_expr _ _ _ _ (@pe_bm _ _ _ _ _ _ _ _ _ _ _ _ PySem.F.plainAttrs_list PySem.F.slot_list_extend PySem.F.type_list_extend mt_extend (@pvN _ 6 _ _ (by rfl) (by first | exact Or.inl rfl | exact Or.inr (Or.inl rfl) | exact Or.inr (Or.inr rfl)) (by decide) (by decide)) (@pa_c _ _ _ _ _ (@pe_comp _ _ _ _ _ _ _ _ _ _ _ (["_law_k", "_law_sizes", "_law_order_here", "_law_found", "_law_axis", "_law_way", "_law_numbers", "_law_longer", "_law_place"]) (1) (comp_ok (defScope s__law_walk) ["_law_sizes", "_law_order_here", "_law_found", "_law_axis", "_law_way", "_law_numbers", "_law_longer", "_law_place"] rfl rfl (by decide +kernel)) rfl (@pi_seq _ _ _ _ (@pvN _ 5 _ _ (by rfl) (by first | exact Or.inl rfl | exact Or.inr (Or.inl rfl) | exact Or.inr (Or.inr rfl)) (by decide) (by decide))) (fun C s₀ H₀ ex pn => (@pg_name _ _ (0) _ (show List.Nodup (["_law_k", "_law_sizes", "_law_order_here", "_law_found", "_law_axis", "_law_way", "_law_numbers", "_law_longer", "_law_place"] : List Str) from by decide +kernel) rfl (Or.inl rfl) (by first | exact .inl rfl | exact .inr rfl | assumption))) (fun C s₀ H₀ ex pn => (@pts_nil _)) (fun C s₀ H₀ ex pn => (@pe_op _ _ _ _ _ _ _ _ op_nCatT (@pe_op _ _ _ _ _ _ _ _ op_nCatT (@pe_slice _ _ _ _ _ _ _ _ _ _ sl_nT (@pvN _ 8 _ _ (by rfl) (by first | exact Or.inl rfl | exact Or.inr (Or.inl rfl) | exact Or.inr (Or.inr rfl)) (by decide) (by decide)) (@po_none _) (@po_some _ _ _ (@pvN _ 4 _ _ (by rfl) (by first | exact Or.inl rfl | exact Or.inr (Or.inl rfl) | exact Or.inr (Or.inr rfl)) (by decide) (by decide)))) (@pe_qTup _ _ _ _ _ (@pa_c _ _ _ _ _ (@pvN _ 0 _ _ (by rfl) (by first | exact Or.inl rfl | exact Or.inr (Or.inl rfl) | exact Or.inr (Or.inr rfl)) (by decide) (by decide)) (@pa_nil _) (by rfl)))) (@pe_slice _ _ _ _ _ _ _ _ _ _ sl_nT (@pvN _ 8 _ _ (by rfl) (by first | exact Or.inl rfl | exact Or.inr (Or.inl rfl) | exact Or.inr (Or.inr rfl)) (by decide) (by decide)) (@po_some _ _ _ (@pe_op _ _ _ _ _ _ _ _ on_add (@pvN _ 4 _ _ (by rfl) (by first | exact Or.inl rfl | exact Or.inr (Or.inl rfl) | exact Or.inr (Or.inr rfl)) (by decide) (by decide)) (@pe_int _ _ _ _))) (@po_none _)))) (by intros; rfl)) (@pa_nil _) (by rfl)) (by rfl) (by rfl) (by rfl) (by rfl) (by rfl)) (by rfl))) (by intros; rfl)) (@pss_one _ _ _ (@ps_set _ _ (2) _ _ _ _ c__law_walk.nd rfl (Or.inl rfl) (@pvN _ 6 _ _ (by rfl) (by first | exact Or.inl rfl | exact Or.inr (Or.inl rfl) | exact Or.inr (Or.inr rfl)) (by decide) (by decide)) (by rfl) (by first | exact .inl rfl | exact .inr rfl | assumption))))))) (by intros; rfl)) (@pss_one _ _ _ (@ps_ret _ _ _ _ (@pvN _ 2 _ _ (by rfl) (by first | exact Or.inl rfl | exact Or.inr (Or.inl rfl) | exact Or.inr (Or.inr rfl)) (by decide) (by decide)))))), ?_⟩
    rw [show start ["_law_sizes", "_law_order_here", "_law_found", "_law_axis", "_law_way", "_law_numbers", "_law_longer", "_law_place"] [.ref p, .ref q] = [some (.ref p), some (.ref q), none, none, none, none, none, none] from rfl]
    have h8 := hs.1
    have hso := szO_ok hs hol hob
    have hob' : ∀ o ∈ os, 0 ≤ o.1 ∧ o.1 < (ms.length : Int) := fun o ho => (hob o ho).1
    simp_all (failIfUnchanged := false) only [and_true]
    intro z1 H1 hz1 e1 h1
    have hp1 := e1.at hp
    simp_all (failIfUnchanged := false) only [and_true]
    refine ⟨by omega, by omega, len5000 (by simp; omega), ?_⟩
    intro z2 H2 hz2 e2 h2
    rw [Int.toNat_natCast, rep_ints] at h2
    simp_all (failIfUnchanged := false) only [and_true]
    intro z3 H3 hz3 e3 h3
    simp_all (failIfUnchanged := false) only [and_true]
    intro r H4 hr4 e4 h4
    have e04 := e1.trans (e2.trans (e3.trans e4))
    have hu4 := e04.at hu
    have hp4 := e04.at hp
    have t4 : TupsAt H4 r (walkM ms (os.take 0)) := ⟨_, h4, Al.snoc (zs := []) (ys := []) Al.nil ⟨z3, rfl, e4.at h3⟩⟩
    clear h1 h2 h3 h4 hp1
    simp_all (failIfUnchanged := false) only [and_true]
    refine for_lst (xs := us) (fun i σ H' => ∃ (r : Addr) (v3 v4 v5 v6 v7 : Option V), σ = [some (.ref p), some (.ref q), some (.ref r), v3, v4, v5, v6, v7] ∧ Ext H H' ∧ TupsAt H' r (walkM ms (os.take i))) ⟨r, _, _, _, _, _, rfl, e04, t4⟩ (fun i σ H' _ ⟨_, _, _, _, _, _, _, e, _⟩ => e.at hu) ?_ ?_
    · rintro i x _ H5 hi ⟨r, v3, v4, v5, v6, v7, rfl, e5, ⟨ys, hr5, al5⟩⟩
      have hio : i < os.length := by have h1 := (List.getElem?_eq_some_iff.mp hi).1; have h2 := al.1; rw [List.length_map] at h2; omega
      obtain ⟨w, rfl, hw⟩ := al.2 i [os[i].1, os[i].2] x (by rw [List.getElem?_map, List.getElem?_eq_getElem hio]; rfl) hi
      have hb := hob os[i] (List.getElem_mem hio)
      have hst := szO_step (List.getElem?_eq_getElem hio) hso.2 hc
      have hW : walkM ms (os.take (i + 1)) = (walkM ms (os.take i)).flatMap fun pl => (wayL ms os[i]).map fun k => pl.set os[i].1.toNat k := by
        rw [List.take_add_one, List.getElem?_eq_getElem hio]; exact walkM_snoc _ _ _
      have hwl := walkM_len (os := os.take i) hs.2 fun o ho => hob' o (List.mem_of_mem_take ho)
      rw [← hwl] at hst
      have hrow : ∀ z ∈ walkM ms (os.take i), z.length = ms.length := fun z hz => walkM_row hz
      have hn := hs.2 _ (getD_in hb.1.1 hb.1.2)
      have hw1 := way_one ms os[i]
      have hw2 := way_rev ms os[i]
      have hwll : (wayL ms os[i]).length = (ms.getD os[i].1.toNat 0).toNat := by unfold wayL; rw [List.length_map, List.length_range]
      have hw5 : H5 w = some (.tup [.int os[i].1, .int os[i].2]) := e5.at hw
      generalize os[i] = o at *
      obtain ⟨o1, o2⟩ := o
      generalize walkM ms (os.take i) = fs at *
      have hat := at_vals (vals := ms) hb.1.1 hb.1.2
      have hp5 := e5.at hp
      dsimp only at *
      generalize ms.getD o1.toNat 0 = m at *
      replace hrow := fun (_ : Unit) => hrow
      replace hW := fun (_ : Unit) => hW
      replace hwl := fun (_ : Unit) => hwl
      replace hw1 := fun (_ : Unit) => hw1
      replace hw2 := fun (_ : Unit) => hw2
      replace hwll := fun (_ : Unit) => hwll
      clear hi hob hob' hw hu4 hp4 t4
      simp_all (failIfUnchanged := false) only [↓m_kBody]
      rw [x_kLR]
      refine ⟨by omega, by omega, ?_⟩
      intro nl H6 hnl e6 h6
      have hr6 := e6.at hr5
      have hw6 := e6.at hw5
      clear hp5 hw5
      simp_all (failIfUnchanged := false) only [-m_tIfS]
      refine if_gen (fun σ' H' => σ' = [some (V.ref p), some (V.ref q), some (V.ref r), some (V.int o1), some (V.int o2), some (V.ref nl), v6, v7] ∧ Ext H5 H' ∧ H' nl = some (.lst ((wayL ms (o1, o2)).map V.int))) (fun nx' hx => ?_) ?_
      · rcases hb.2 with h | h
        · have hx' := hx _ H6 ⟨rfl, e6, by rw [← hw1 () h (by omega)]; exact h6⟩
          clear hx
          subst h
          simp_all (failIfUnchanged := false) only [and_true]
        · have hx' := hx _ (upd H6 nl (.lst ((wayL ms (o1, o2)).map V.int))) ⟨rfl, e6.put hnl, upd_same⟩
          rw [← hw2 () h (by omega)] at hx'
          clear hx
          subst h
          simp_all (failIfUnchanged := false) only [and_true]
      rintro _ H7 ⟨rfl, e7, h7⟩
      have hr7 := e7.at hr5
      have e57 := e5.trans e7
      have al7 := al5.imp fun _ _ z => TupV.ext z e7
      generalize wayL ms (o1, o2) = wl at *
      clear hw1 hw2 h6 hr6 hr5 e6 hw6 al5 hat
      simp_all (failIfUnchanged := false) only [and_true]
      intro L H8 hL e8 h8'
      have hr8 := e8.at hr7
      simp_all (failIfUnchanged := false) only [and_true]
      refine for_lst (xs := ys) (fun j σ H' => ∃ (v7 : Option V) (zs' : List V), σ = [some (.ref p), some (.ref q), some (.ref r), some (.int o1), some (.int o2), some (.ref nl), some (.ref L), v7] ∧ Ext H7 H' ∧ H' L = some (.lst zs') ∧ Al (TupV H') ((fs.take j).flatMap fun pl => wl.map fun k => pl.set o1.toNat k) zs') ⟨_, [], rfl, e8, h8', by simpa using Al.nil⟩ (fun j σ H' _ ⟨_, _, _, e, _⟩ => e.at hr7) ?_ ?_
      · rintro j y _ H9 hj ⟨v7, zs', rfl, e9, h9, al9⟩
        obtain ⟨z, hz, w9, rfl, hw9⟩ := getElem?_zs (al7.imp fun _ _ z => TupV.ext z e9) hj
        have hzl := hrow () z (List.mem_of_getElem? hz)
        have hst9 := flat_step fs (fun pl => wl.map fun k => pl.set o1.toNat k) j z hz
        have h7_9 := e9.at h7
        clear hr8
        simp_all (failIfUnchanged := false) only [↓m_kBody]
        have alw : Al (fun (k : Int) y => y = .int k) wl (wl.map V.int) := ⟨by rw [List.length_map], fun i a y ha hy => by rw [List.getElem?_map, ha] at hy; exact (Option.some.inj hy).symm⟩
        refine comp_rel wl (fun _ => true) (fun k x _ => x = .int k) (fun D k y H' => ∃ q, y = .ref q ∧ q ≠ D ∧ H' q = some (.tup ((z.set o1.toNat k).map V.int))) (wk_al (R := fun k x _ => x = .int k) (fun _ _ _ _ h _ => h) h7_9 alw).1 (wk_al (R := fun k x _ => x = .int k) (fun _ _ _ _ h _ => h) h7_9 alw).2 (fun D _ y H1 H2 ⟨q, h1, h2, h3⟩ e => ⟨q, h1, h2, e.at h3⟩) (fun D _ y H1 o ⟨q, h1, h2, h3⟩ => ⟨q, h1, h2, by rw [upd_ne h2]; exact h3⟩) (len5000 (by rw [hwll ()]; omega)) ?_ ?_
        · intro D k y H' N1 N0 hk hD e ⟨ys0, hys0⟩ hx kc _
          subst hx
          have kc' := kc rfl
          have hw' := e.at hw9
          clear kc hk hw9 h9 h7_9 hj
          simp_all (failIfUnchanged := false) only [↓m_kCm_1, ↓m_kCm2]
          refine kns_take hb.1.1 (by rw [List.length_map]; omega) ?_
          intro a1 G1 ha1 f1 g1
          simp_all (failIfUnchanged := false) only [and_true]
          intro a2 G2 ha2 f2 g2
          have g1_2 := f2.at g1
          simp_all (failIfUnchanged := false) only [and_true]
          rw [x_kCT2]
          refine ⟨len5000 (by rw [List.length_take, List.length_map]; simp; omega), fun a3 G3 f3 g3 => ?_⟩
          have hw3 := (f1.trans (f2.trans f3)).at hw'
          clear g1 g1_2 g2
          simp_all (failIfUnchanged := false) only [and_true]
          refine kns_drop (by omega) (by rw [List.length_map]; omega) ?_
          intro a4 G4 ha4 f4 g4
          have g3_4 := f4.at g3
          simp_all (failIfUnchanged := false) only [and_true]
          rw [x_kCT2]
          refine ⟨len5000 (by simp; omega), fun a5 G5 f5 g5 => ?_⟩
          have f05 := f1.trans (f2.trans (f3.trans (f4.trans f5)))
          refine kc' _ G5 f05 ⟨a5, rfl, fun e => ?_, ?_⟩
          · rw [e, f05.at hys0] at g5; cases g5
          · rw [g5, ← set_cut z o1.toNat k (by omega), show (o1 + 1).toNat = o1.toNat + 1 by omega]
            simp
        · intro D ws H10 hD e10 hD10 al10
          rw [filt] at al10
          have hL10 := e10.at h9
          have hDL : D ≠ L := fun e => by rw [e, h9] at hD; cases hD
          have al9' := al9.imp fun _ _ z => TupV.ext z e10
          have hfl := flat_len fs (fun pl => wl.map fun k => pl.set o1.toNat k) m.toNat (fun z _ => by rw [List.length_map]; exact hwll ()) (j + 1)
          rw [hst9, List.length_append, List.length_map] at hfl
          have hzz : zs'.length + ws.length ≤ sizeLine := len5000 (by rw [al9.1, al10.1]; omega)
          clear hst9 h9
          simp_all (failIfUnchanged := false) only [and_true]
          refine ⟨_, _, rfl, ?_, rfl, ?_⟩
          · exact (e9.trans e10).put hL
          · refine al_app (al9'.imp fun _ _ t => t.upd hL10) ⟨by rw [List.length_map, al10.1], fun i a y ha hy => ?_⟩
            rw [List.getElem?_map] at ha
            obtain ⟨k, hk, rfl⟩ := Option.map_eq_some_iff.mp ha
            obtain ⟨q', h1, _, h3⟩ := al10.2 i k y hk hy
            exact ⟨q', h1, by rw [upd_ne (fun e => by rw [e, hL10] at h3; cases h3)]; exact h3⟩
      · rintro _ H9 ⟨v7, zs', rfl, e9, h9, al9⟩
        rw [al7.1, List.take_length] at al9
        simp_all (failIfUnchanged := false) only [and_true]
        exact ⟨L, _, _, _, _, _, rfl, e57.trans e9, zs', h9, by rw [hW ()]; exact al9⟩
    · rintro _ H5 ⟨r, v3, v4, v5, v6, v7, rfl, e5, tt⟩
      rw [al.1, List.length_map, List.take_length] at tt
      simp_all (failIfUnchanged := false) only [and_true]
      exact kk r H5 e5 tt
def spAsked  : Sp := fun vs H Q E => ∃ (p : Addr) (x : V), vs = [.ref p, x] ∧ (∃ ms : List Int, H p = some (.lst (ms.map V.int)) ∧ Sizes ms ∧ (BadOrd ms.length H x → ∀ (r : Addr) (H' : Hp), Ext H H' → H' r = some (.tup [.str "order", .int 0]) → Q (.ref r) H') ∧ (¬ BadOrd ms.length H x → ∃ q os, x = .ref q ∧ LoopsAt ms.length H q os ∧ (prodL (szO ms os) ≤ 4096 → ∀ (r l : Addr) (H' : Hp), H l = none → Ext H H' → H' r = some (.tup [.str "walk", .ref l]) → TupsAt H' l (walkM ms os) → Q (.ref r) H') ∧ (4096 < prodL (szO ms os) → ∀ (r : Addr) (H' : Hp), Ext H H' → H' r = some (.tup [.str "many", .int (prodL (szO ms os))]) → Q (.ref r) H')))
theorem c_spAsked  (p : Addr) (x : V) (H : Hp) (Q : VK) (E : XK) : spAsked  [.ref p, x] H Q E = (∃ ms : List Int, H p = some (.lst (ms.map V.int)) ∧ Sizes ms ∧ (BadOrd ms.length H x → ∀ (r : Addr) (H' : Hp), Ext H H' → H' r = some (.tup [.str "order", .int 0]) → Q (.ref r) H') ∧ (¬ BadOrd ms.length H x → ∃ q os, x = .ref q ∧ LoopsAt ms.length H q os ∧ (prodL (szO ms os) ≤ 4096 → ∀ (r l : Addr) (H' : Hp), H l = none → Ext H H' → H' r = some (.tup [.str "walk", .ref l]) → TupsAt H' l (walkM ms os) → Q (.ref r) H') ∧ (4096 < prodL (szO ms os) → ∀ (r : Addr) (H' : Hp), Ext H H' → H' r = some (.tup [.str "many", .int (prodL (szO ms os))]) → Q (.ref r) H'))) := spx2 (f := fun (p : Addr) (x : V) => [.ref p, x]) (fun _ _ _ _ h => by cases h; exact ⟨rfl, rfl⟩) p x
theorem l_spAsked  {vs : List V} {H : Hp} {Q : VK} {E : XK} (h : spAsked  vs H Q E) : vs.length = 2 := spl2 h fun _ _ => rfl
theorem ok__law_asked (T : Tx K mg t) : FnOk P w K mg base CX0 7 t.a__law_asked t.d__law_asked ["_law_sizes", "_law_order_here"] spAsked := by
  have G_walk_of := ok_walk_of (P := P) (w := w) (base := base) T
  refine T.F__law_asked.ok c__law_asked (fun vs H Q E h => l_spAsked h) (fun cdv A outer s H vs Q E hr h => ?_)
  · obtain ⟨p, x, rfl, ms, hp, hs, hbad, hgood⟩ := h
    have hx1 := T.x_TooMany_PaceError
    have hx2 := T.x_NoOrder_PaceError
    refine ⟨_, (@pss_cons _ _ _ _ _ (@ps_try _ _ _ _ _ _ _ ⟨rfl, rfl, rfl⟩ (fun EX E pn hx => (@pss_one _ _ _ (@ps_set _ _ (2) _ _ _ _ c__law_asked.nd rfl (Or.inl rfl) (@pe_callX _ _ _ _ _ _ _ _ _ _ _ _ _ _ _ _ G_walk_of (hr.mono (by decide)) (by rfl) T.m_walk_of T.F_walk_of.kp T.b_walk_of .nil hx (@pa_c _ _ _ _ _ (@pvN _ 0 _ _ (by rfl) (by first | exact Or.inl rfl | exact Or.inr (Or.inl rfl) | exact Or.inr (Or.inr rfl)) (by decide) (by decide)) (@pa_c _ _ _ _ _ (@pvN _ 1 _ _ (by rfl) (by first | exact Or.inl rfl | exact Or.inr (Or.inl rfl) | exact Or.inr (Or.inr rfl)) (by decide) (by decide)) (@pa_nil _) (by rfl)) (by rfl)) (by decide) (by rfl) (by rfl)) (by rfl) (by first | exact .inl rfl | exact .inr rfl | assumption)))) (@phs_as _ _ _ (3) _ _ _ _ _ _ _ _ c__law_asked.nd rfl rfl (by rfl) (.inl T.m_PaceError) (fun ee => (@pss_cons _ _ _ _ _ (@ps_if _ _ _ _ _ _ _ _ (PW.pt (@pw_and _ _ _ _ _ _ _ (@pt_valN _ _ _ (@pe_callB _ _ _ _ _ _ _ ("isinstance") _ (call_qIsE' (K := K) rfl) (by rfl) T.z_isinstance (by decide +kernel) (@pa_c _ _ _ _ _ (@pvN _ 3 _ _ (by rfl) (by first | exact Or.inl rfl | exact Or.inr (Or.inl rfl) | exact Or.inr (Or.inr rfl)) (by decide) (by decide)) (@pa_c _ _ _ _ _ (@pe_glob _ _ (.ref t.a_NoOrder) _ _ (by rfl) T.m_NoOrder rfl (by decide)) (@pa_nil _) (by rfl)) (by rfl)) (by decide) (by decide) (by rfl) (by rfl)) (by intros; rfl)) (@pw_and _ _ _ _ _ _ _ (@pt_not _ _ _ _ (@pt_valN _ _ _ (@pe_callB _ _ _ _ _ _ _ ("isinstance") _ (call_qIsE' (K := K) rfl) (by rfl) T.z_isinstance (by decide +kernel) (@pa_c _ _ _ _ _ (@pvN _ 3 _ _ (by rfl) (by first | exact Or.inl rfl | exact Or.inr (Or.inl rfl) | exact Or.inr (Or.inr rfl)) (by decide) (by decide)) (@pa_c _ _ _ _ _ (@pe_glob _ _ (.ref t.a_TooMany) _ _ (by rfl) T.m_TooMany rfl (by decide)) (@pa_nil _) (by rfl)) (by rfl)) (by decide) (by decide) (by rfl) (by rfl)) (by intros; rfl))) (@pw_and1 _ _ _ _ (@pt_valN _ _ _ (@pe_callB _ _ _ _ _ _ _ ("isinstance") _ (call_qIsE' (K := K) rfl) (by rfl) T.z_isinstance (by decide +kernel) (@pa_c _ _ _ _ _ (@pvN _ 3 _ _ (by rfl) (by first | exact Or.inl rfl | exact Or.inr (Or.inl rfl) | exact Or.inr (Or.inr rfl)) (by decide) (by decide)) (@pa_c _ _ _ _ _ (@pe_bltn _ _ (.ty "ValueError") (.type "ValueError") _ (by rfl) T.z_ValueError (by decide +kernel) rfl (by decide) (by decide)) (@pa_nil _) (by rfl)) (by rfl)) (by decide) (by decide) (by rfl) (by rfl)) (by intros; rfl)))))) (@pss_one _ _ _ (@ps_ret _ _ _ _ (@pe_qTup _ _ _ _ _ (@pa_c _ _ _ _ _ (@pe_str _ _ _ _) (@pa_c _ _ _ _ _ (@pe_int _ _ _ _) (@pa_nil _) (by rfl)) (by rfl))))) (@pss_nil _)) (@pss_cons _ _ _ _ _ (@ps_if _ _ _ _ _ _ _ _ (PW.pt (@pw_and _ _ _ _ _ _ _ (@pt_valN _ _ _ (@pe_callB _ _ _ _ _ _ _ ("isinstance") _ (call_qIsE' (K := K) rfl) (by rfl) T.z_isinstance (by decide +kernel) (@pa_c _ _ _ _ _ (@pvN _ 3 _ _ (by rfl) (by first | exact Or.inl rfl | exact Or.inr (Or.inl rfl) | exact Or.inr (Or.inr rfl)) (by decide) (by decide)) (@pa_c _ _ _ _ _ (@pe_glob _ _ (.ref t.a_TooMany) _ _ (by rfl) T.m_TooMany rfl (by decide)) (@pa_nil _) (by rfl)) (by rfl)) (by decide) (by decide) (by rfl) (by rfl)) (by intros; rfl)) (@pw_and _ _ _ _ _ _ _ (@pt_not _ _ _ _ (@pt_valN _ _ _ (@pe_callB _ _ _ _ _ _ _ ("isinstance") _ (call_qIsE' (K := K) rfl) (by rfl) T.z_isinstance (by decide +kernel) (@pa_c _ _ _ _ _ (@pvN _ 3 _ _ (by rfl) (by first | exact Or.inl rfl | exact Or.inr (Or.inl rfl) | exact Or.inr (Or.inr rfl)) (by decide) (by decide)) (@pa_c _ _ _ _ _ (@pe_glob _ _ (.ref t.a_NoOrder) _ _ (by rfl) T.m_NoOrder rfl (by decide)) (@pa_nil _) (by rfl)) (by rfl)) (by decide) (by decide) (by rfl) (by rfl)) (by intros; rfl))) (@pw_and1 _ _ _ _ (@pt_valN _ _ _ (@pe_callB _ _ _ _ _ _ _ ("isinstance") _ (call_qIsE' (K := K) rfl) (by rfl) T.z_isinstance (by decide +kernel) (@pa_c _ _ _ _ _ (@pvN _ 3 _ _ (by rfl) (by first | exact Or.inl rfl | exact Or.inr (Or.inl rfl) | exact Or.inr (Or.inr rfl)) (by decide) (by decide)) (@pa_c _ _ _ _ _ (@pe_bltn _ _ (.ty "ValueError") (.type "ValueError") _ (by rfl) T.z_ValueError (by decide +kernel) rfl (by decide) (by decide)) (@pa_nil _) (by rfl)) (by rfl)) (by decide) (by decide) (by rfl) (by rfl)) (by intros; rfl)))))) (@pss_one _ _ _ (@ps_ret _ _ _ _ (@pe_qTup _ _ _ _ _ (@pa_c _ _ _ _ _ (@pe_str _ _ _ _) (@pa_c _ _ _ _ _ (@pe_xfld' _ (K) rfl _ _ _ _ (@pvN _ 3 _ _ (by rfl) (by first | exact Or.inl rfl | exact Or.inr (Or.inl rfl) | exact Or.inr (Or.inr rfl)) (by decide) (by decide)) rfl) (@pa_nil _) (by rfl)) (by rfl))))) (@pss_nil _)) (@pss_one _ _ _ (@ps_ret _ _ _ _ (@pe_qTup _ _ _ _ _ (@pa_c _ _ _ _ _ (@pe_str _ _ _ _) (@pa_c _ _ _ _ _ (@pe_int _ _ _ _) (@pa_nil _) (by rfl)) (by rfl)))))))) (@phs_nil _) (by decide))) (@pss_one _ _ _ (@ps_ret _ _ _ _ (@pe_qTup _ _ _ _ _ (@pa_c _ _ _ _ _ (@pe_str _ _ _ _) (@pa_c _ _ _ _ _ (@pvN _ 2 _ _ (by rfl) (by first | exact Or.inl rfl | exact Or.inr (Or.inl rfl) | exact Or.inr (Or.inr rfl)) (by decide) (by decide)) (@pa_nil _) (by rfl)) (by rfl)))))), ?_⟩
    rw [show start ["_law_sizes", "_law_order_here", "_law_found", "e"] [.ref p, x] = [some (.ref p), some (x), none, none] from rfl]
    simp_all (failIfUnchanged := false) only [and_true]
    rw [c_spWalkOf]
    refine ⟨ms, hp, hs, fun hB H1 e1 => ?_, fun hB => ?_⟩
    · have k := hbad hB
      clear hbad hgood
      simp_all (failIfUnchanged := false) only [and_true]
      intro e oe he hcl hdc hdat
      have g4 : (upd H1 e (excO oe)) e = some (excO oe) := upd_same
      have e2 : Ext H (upd H1 e (excO oe)) := e1.trans (Ext.new he)
      generalize upd H1 e (excO oe) = H2 at e2 g4
      simp_all (failIfUnchanged := false) only [T.e_NoOrder, T.k_NoOrder_NoOrder, T.k_NoOrder_TooMany, T.k_NoOrder_ValueError]
      intro r H3 hr3 e3 h3
      exact k r H3 (e2.trans e3) h3
    · obtain ⟨q, os, rfl, h1, k1, k2⟩ := hgood hB
      refine ⟨q, os, rfl, h1, fun hn r H1 hr1 e1 h2 => ?_, fun hn dx H1 e1 h2 => ?_⟩
      · have k1' := k1 hn
        rw [walk_eq ms hs.2 os fun o ho => (h1.2.2 o ho).1] at h2
        clear hbad hgood k1 k2
        simp_all (failIfUnchanged := false) only [and_true]
        intro r2 H2 hr2 e2 h3
        exact k1' r2 r H2 hr1 (e1.trans e2) h3 (h2.ext e2)
      · have k2' := k2 hn
        clear hbad hgood k1 k2
        simp_all (failIfUnchanged := false) only [and_true]
        intro e oe he hcl hdc hdat
        have hdx : dx ≠ e := ne_of_none h2 he
        have g3 : (upd H1 e (excO oe)) dx = some (.xd [("number", .int (prodL (szO ms os)))]) := by rw [upd_ne hdx]; exact h2
        have g4 : (upd H1 e (excO oe)) e = some (excO oe) := upd_same
        have e2 : Ext H (upd H1 e (excO oe)) := e1.trans (Ext.new he)
        generalize upd H1 e (excO oe) = H2 at e2 g4 g3
        clear h2 hdx he
        simp_all (failIfUnchanged := false) only [T.e_TooMany, T.k_TooMany_NoOrder, T.k_TooMany_TooMany, T.k_TooMany_ValueError]
        refine ⟨e, oe, t.a_TooMany, dx, [("number", .int (prodL (szO ms os)))], .int (prodL (szO ms os)), rfl, g4, hcl, hdc, hdat, g3, T.e_TooMany, T.na_TooMany_number, rfl, ?_⟩
        simp_all (failIfUnchanged := false) only [and_true]
        intro r H3 hr3 e3 h3
        exact k2' r H3 (e2.trans e3) h3
def wholeC (x : V) : Bool := match x with
  | .int _ => false
  | _ => true
theorem filter_ints (xs : List Int) : (xs.map V.int).filter wholeC = [] := by
  rw [List.filter_eq_nil_iff]
  intro a ha
  obtain ⟨i, _, rfl⟩ := List.mem_map.mp ha
  simp [wholeC]
def spRight  : Sp := fun vs H Q E => ∃ (f : Addr) (d : Addr), vs = [.ref f, .ref d] ∧ (∃ (l : Addr) (zs : List (List Int)), H f = some (.tup [.str "walk", .ref l]) ∧ TupsAt H l zs ∧ TupsAt H d zs ∧ zs.length ≤ 4096 ∧ (∀ z ∈ zs, z.length ≤ 8) ∧ ∀ H', Ext H H' → Q (.bl true) H')
theorem c_spRight  (f : Addr) (d : Addr) (H : Hp) (Q : VK) (E : XK) : spRight  [.ref f, .ref d] H Q E = (∃ (l : Addr) (zs : List (List Int)), H f = some (.tup [.str "walk", .ref l]) ∧ TupsAt H l zs ∧ TupsAt H d zs ∧ zs.length ≤ 4096 ∧ (∀ z ∈ zs, z.length ≤ 8) ∧ ∀ H', Ext H H' → Q (.bl true) H') := spx2 (f := fun (f : Addr) (d : Addr) => [.ref f, .ref d]) (fun _ _ _ _ h => by cases h; exact ⟨rfl, rfl⟩) f d
theorem l_spRight  {vs : List V} {H : Hp} {Q : VK} {E : XK} (h : spRight  vs H Q E) : vs.length = 2 := spl2 h fun _ _ => rfl
theorem ok__law_right (T : Tx K mg t) : FnOk P w K mg base CX0 2 t.a__law_right t.d__law_right ["_law_found", "_law_due"] spRight := by
  have G__law_whole := ok__law_whole (P := P) (w := w) (base := base) T
  refine T.F__law_right.ok c__law_right (fun vs H Q E h => l_spRight h) (fun cdv A outer s H vs Q E hr h => ?_)
  · obtain ⟨f, d, rfl, l, zs, hf, ⟨ys, hl, al⟩, ⟨ys2, hd, al2⟩, hn, hz8, k⟩ := h
    have so1 : PyData.strOk (Str.ofString "walk") = true := by decide +kernel
    refine ⟨_, (@pss_cons _ _ _ _ _ (@ps_if _ _ _ _ _ _ _ _ (PW.pt (@pw_or _ _ _ _ _ _ _ (@pt_cmpRN _ _ _ _ _ _ _ _ (op_qNe hr.units) (@pe_ix _ _ _ _ _ _ _ ix_q (@pvN _ 0 _ _ (by rfl) (by first | exact Or.inl rfl | exact Or.inr (Or.inl rfl) | exact Or.inr (Or.inr rfl)) (by decide) (by decide)) (@pe_int _ _ _ _) (fun _ _ => rfl)) (@pe_str _ _ _ _) (nomark _)) (@pw_or _ _ _ _ _ _ _ (@pt_not _ _ _ _ (@pt_valN _ _ _ (@pe_callB _ _ _ _ _ _ _ ("isinstance") _ call_qIsi (by rfl) T.z_isinstance (by decide +kernel) (@pa_c _ _ _ _ _ (@pe_ix _ _ _ _ _ _ _ ix_q (@pvN _ 0 _ _ (by rfl) (by first | exact Or.inl rfl | exact Or.inr (Or.inl rfl) | exact Or.inr (Or.inr rfl)) (by decide) (by decide)) (@pe_int _ _ _ _) (fun _ _ => rfl)) (@pa_c _ _ _ _ _ (@pe_bltn _ _ (.ty "list") (.type "list") _ (by rfl) T.z_list (by decide +kernel) rfl (by decide) (by decide)) (@pa_nil _) (by rfl)) (by rfl)) (by decide) (by decide) (by rfl) (by rfl)) (by intros; rfl))) (@pw_or1 _ _ _ _ (@pt_cmpRN _ _ _ _ _ _ _ _ (op_qNe hr.units) (@pe_ix _ _ _ _ _ _ _ ix_q (@pvN _ 0 _ _ (by rfl) (by first | exact Or.inl rfl | exact Or.inr (Or.inl rfl) | exact Or.inr (Or.inr rfl)) (by decide) (by decide)) (@pe_int _ _ _ _) (fun _ _ => rfl)) (@pvN _ 1 _ _ (by rfl) (by first | exact Or.inl rfl | exact Or.inr (Or.inl rfl) | exact Or.inr (Or.inr rfl)) (by decide) (by decide)) (nomark _)))))) (@pss_one _ _ _ (@ps_ret _ _ _ _ (@pe_bl _ _ _ _))) (@pss_nil _)) (@pss_cons _ _ _ _ _ (@ps_for _ _ _ _ _ _ _ _ PassesOwn.never rfl (@pi_seq _ _ _ _ (@pe_ix _ _ _ _ _ _ _ ix_q (@pvN _ 0 _ _ (by rfl) (by first | exact Or.inl rfl | exact Or.inr (Or.inl rfl) | exact Or.inr (Or.inr rfl)) (by decide) (by decide)) (@pe_int _ _ _ _) (fun _ _ => rfl))) (@pg_name _ _ (2) _ c__law_right.nd rfl (Or.inl rfl) (by first | exact .inl rfl | exact .inr rfl | assumption)) (@pss_one _ _ _ (@ps_if _ _ _ _ _ _ _ _ (PW.pt (@pw_or _ _ _ _ _ _ _ (@pt_not _ _ _ _ (@pt_valN _ _ _ (@pe_callB _ _ _ _ _ _ _ ("isinstance") _ call_qIsi (by rfl) T.z_isinstance (by decide +kernel) (@pa_c _ _ _ _ _ (@pvN _ 2 _ _ (by rfl) (by first | exact Or.inl rfl | exact Or.inr (Or.inl rfl) | exact Or.inr (Or.inr rfl)) (by decide) (by decide)) (@pa_c _ _ _ _ _ (@pe_bltn _ _ (.ty "tuple") (.type "tuple") _ (by rfl) T.z_tuple (by decide +kernel) rfl (by decide) (by decide)) (@pa_nil _) (by rfl)) (by rfl)) (by decide) (by decide) (by rfl) (by rfl)) (by intros; rfl))) (@pw_or1 _ _ _ _ (@pt_cmpRN _ _ _ _ _ _ _ _ (op_qNe hr.units) (@pe_comp _ _ _ _ _ _ _ _ _ _ _ (["_law_number", "_law_found", "_law_due", "_law_place"]) (1) (comp_ok (defScope s__law_right) ["_law_found", "_law_due", "_law_place"] rfl rfl (by decide +kernel)) rfl (@pi_seq _ _ _ _ (@pvN _ 2 _ _ (by rfl) (by first | exact Or.inl rfl | exact Or.inr (Or.inl rfl) | exact Or.inr (Or.inr rfl)) (by decide) (by decide))) (fun C s₀ H₀ ex pn => (@pg_name _ _ (0) _ (show List.Nodup (["_law_number", "_law_found", "_law_due", "_law_place"] : List Str) from by decide +kernel) rfl (Or.inl rfl) (by first | exact .inl rfl | exact .inr rfl | assumption))) (fun C s₀ H₀ ex pn => (@pts_one _ _ _ (@pt_not _ _ _ _ (@pt_valN _ _ _ (@pe_call _ _ _ _ _ _ _ _ _ _ _ _ _ _ _ _ G__law_whole (hr.mono (by decide)) (by rfl) T.m__law_whole T.F__law_whole.kp T.b__law_whole .nil pass0 (@pa_c _ _ _ _ _ (@pvN _ 0 _ _ (by rfl) (by first | exact Or.inl rfl | exact Or.inr (Or.inl rfl) | exact Or.inr (Or.inr rfl)) (by decide) (by decide)) (@pa_nil _) (by rfl)) (by decide) (by rfl) (by rfl)) (by intros; rfl))))) (fun C s₀ H₀ ex pn => (@pvN _ 0 _ _ (by rfl) (by first | exact Or.inl rfl | exact Or.inr (Or.inl rfl) | exact Or.inr (Or.inr rfl)) (by decide) (by decide))) (by intros; rfl)) (@pe_qLst _ _ _ _ (@pa_nil _)) (nomark _))))) (@pss_one _ _ _ (@ps_ret _ _ _ _ (@pe_bl _ _ _ _))) (@pss_nil _))) (by intros; rfl)) (@pss_one _ _ _ (@ps_ret _ _ _ _ (@pe_bl _ _ _ _))))), ?_⟩
    rw [show start ["_law_found", "_law_due", "_law_place"] [.ref f, .ref d] = [some (.ref f), some (.ref d), none] from rfl]
    have d1 := tups_all (H := H) (f := datF H (datF H (datF H noD))) al
    have d2 := tups_all (H := H) (f := datF H (datF H (datF H noD))) al2
    have d3 := tups_eqv zs
    simp_all (failIfUnchanged := false) only [and_true]
    refine for_lst (xs := ys) (fun i σ H' => ∃ v2 : Option V, σ = [some (.ref f), some (.ref d), v2] ∧ Ext H H') ⟨_, rfl, Ext.refl _⟩ (fun i σ H' _ ⟨_, _, e⟩ => e.at hl) ?_ ?_
    · rintro i y _ H1 hi ⟨v2, rfl, e1⟩
      obtain ⟨z, hz, r, rfl, hr'⟩ := getElem?_zs (al.imp fun _ _ z => TupV.ext z e1) hi
      have h8 := hz8 z (List.mem_of_getElem? hz)
      clear d1 d2 d3 hi
      simp_all (failIfUnchanged := false) only [↓m_kBody]
      refine comp_fm (z.map V.int) wholeC id (fun z' x H' => x = z' ∧ H' r = some (.tup (z.map V.int))) (wk_tup hr').1 (wk_tup hr').2 (len5000 (by rw [List.length_map]; omega)) ?_ ?_
      · intro D z' x H' N1 N0 hz' hD e ⟨hx, _⟩ k1 k0
        subst hx
        obtain ⟨i, _, rfl⟩ := List.mem_map.mp hz'
        have k0' := k0 rfl H' (Ext.refl _)
        clear k1 k0 k
        simp_all (failIfUnchanged := false) only [↓m_kCm_1, ↓m_kCm2, ↓c_spWhole]
      intro D2 H2 hD2 e2 h2
      rw [filter_ints, List.map_nil] at h2
      simp_all (failIfUnchanged := false) only [and_true]
      intro u H3 hu e3 h3
      have h2_3 := e3.at h2
      simp_all (failIfUnchanged := false) only [and_true]
      exact ⟨_, rfl, e1.trans (e2.trans e3)⟩
    · rintro _ H1 ⟨v2, rfl, e1⟩
      have k' := k H1 e1
      clear k d1 d2 d3
      simp_all (failIfUnchanged := false) only [and_true]
theorem LoopsAt.ext {n : Nat} {H H' : Hp} {q : Addr} {os : List (Int × Int)} (h : LoopsAt n H q os) (e : Ext H H') : LoopsAt n H' q os := ⟨h.1.ext e, h.2⟩
theorem BadOrd.ext {n : Nat} {H H' : Hp} {x : V} (h : BadOrd n H x) (e : Ext H H') : BadOrd n H' x := by
  rcases h with ⟨a, b⟩ | ⟨q, xs, hx, hq, hl, hc⟩
  · obtain ⟨c, hc⟩ := Option.isSome_iff_exists.mp a
    refine .inl ⟨Option.isSome_iff_exists.mpr ⟨c, isW_ext e hc⟩, fun q o hx ho => ?_⟩
    subst hx
    obtain ⟨_, o', ho', _⟩ := isW_obj hc
    have := e.at ho'
    rw [ho] at this
    cases this
    exact b q _ rfl ho'
  · refine .inr ⟨q, xs, hx, e.at hq, hl, ?_⟩
    rcases hc with h | ⟨h1, h2⟩ | ⟨os, h1, h2⟩
    · exact .inl h
    · refine .inr (.inl ⟨fun y hy => thingOk_ext e (h1 y hy), ?_⟩)
      rw [← h2]
      rw [Bool.eq_iff_iff, List.all_eq_true, List.all_eq_true]
      exact ⟨fun h y hy => by rw [← loopF_ext e (h1 y hy)]; exact h y hy, fun h y hy => by rw [loopF_ext e (h1 y hy)]; exact h y hy⟩
    · exact .inr (.inr ⟨os, h1.ext e, h2⟩)
def AllBad (n : Nat) (H : Hp) (vs : List V) : Prop := ∀ v ∈ vs, BadOrd n H v
theorem AllBad.nil {n : Nat} {H : Hp} : AllBad n H [] := fun _ h => absurd h List.not_mem_nil
theorem AllBad.ext {n : Nat} {H H' : Hp} {vs : List V} (h : AllBad n H vs) (e : Ext H H') : AllBad n H' vs := fun v hv => (h v hv).ext e
theorem AllBad.snoc {n : Nat} {H : Hp} {vs : List V} {v : V} (h : AllBad n H vs) (b : BadOrd n H v) : AllBad n H (vs ++ [v]) := fun x hx => by
  rcases List.mem_append.mp hx with hx | hx
  · exact h x hx
  · rw [List.mem_singleton.mp hx]; exact b
def BadL (n : Int) (H : Hp) (y : V) : Prop := thingOk H y ∧ loopF n y H = false
theorem BadL.ext {n : Int} {H H' : Hp} {x : V} (h : BadL n H x) (e : Ext H H') : BadL n H' x := ⟨thingOk_ext e h.1, by rw [loopF_ext e h.1]; exact h.2⟩
def AllBadL (n : Int) (H : Hp) (vs : List V) : Prop := ∀ v ∈ vs, BadL n H v
theorem AllBadL.nil {n : Int} {H : Hp} : AllBadL n H [] := fun _ h => absurd h List.not_mem_nil
theorem AllBadL.ext {n : Int} {H H' : Hp} {vs : List V} (h : AllBadL n H vs) (e : Ext H H') : AllBadL n H' vs := fun v hv => (h v hv).ext e
theorem AllBadL.snoc {n : Int} {H : Hp} {vs : List V} {v : V} (h : AllBadL n H vs) (b : BadL n H v) : AllBadL n H (vs ++ [v]) := fun x hx => by
  rcases List.mem_append.mp hx with hx | hx
  · exact h x hx
  · rw [List.mem_singleton.mp hx]; exact b
theorem badL_tup {n : Int} {H : Hp} {p : Addr} {xs : List V} (h : H p = some (.tup xs)) (hx : xs.all (fun y => match y with | .ref _ => false | _ => (isW H y).isSome) = true) (hf : loopO n (some (.tup xs)) = false) : BadL n H (.ref p) := by
  refine ⟨⟨by rw [isW_ref']; simp [h, tyO_tup], fun q ys e hq y hy => ?_⟩, by show loopO n (H p) = false; rw [h]; exact hf⟩
  cases e
  rw [h] at hq
  cases hq
  have := List.all_eq_true.mp hx y hy
  cases y with
  | ref a => exact absurd (show false = true from this) (by decide)
  | _ => exact this
theorem badL_lst {n : Int} {H : Hp} {p : Addr} {xs : List V} (h : H p = some (.lst xs)) : BadL n H (.ref p) := by
  refine ⟨⟨by rw [isW_ref']; simp [h, tyO_lst], fun q ys e hq y hy => ?_⟩, by show loopO n (H p) = false; rw [h]; rfl⟩
  cases e
  rw [h] at hq
  cases hq
theorem badL_flat {n : Int} {H : Hp} {x : V} (h : match x with | .int _ => True | .non => True | _ => False) : BadL n H x := by
  cases x with
  | int i => exact ⟨⟨rfl, fun q xs e => by cases e⟩, rfl⟩
  | non => exact ⟨⟨rfl, fun q xs e => by cases e⟩, rfl⟩
  | _ => exact h.elim
theorem bad_len {n : Nat} {H : Hp} {p : Addr} {xs : List V} (h : H p = some (.lst xs)) (hl : xs.length ≤ 20) (hn : xs.length ≠ n) : BadOrd n H (.ref p) := .inr ⟨p, xs, rfl, h, hl, .inl hn⟩
theorem bad_flat {n : Nat} {H : Hp} {x : V} (h : match x with | .int _ => True | .non => True | _ => False) : BadOrd n H x := by
  cases x with
  | int i => exact .inl ⟨rfl, fun q o e => by cases e⟩
  | non => exact .inl ⟨rfl, fun q o e => by cases e⟩
  | _ => exact h.elim
theorem bad_tup {n : Nat} {H : Hp} {p : Addr} {xs : List V} (h : H p = some (.tup xs)) : BadOrd n H (.ref p) := .inl ⟨by rw [isW_ref']; simp [h, tyO_tup], fun q o e ho => by cases e; rw [h] at ho; cases ho; rw [tyO_tup]; decide⟩
theorem bad_dict {n : Nat} {H : Hp} {p : Addr} (h : H p = some (.dK [])) : BadOrd n H (.ref p) := .inl ⟨by rw [isW_ref']; simp [h, tyO_dK], fun q o e ho => by cases e; rw [h] at ho; cases ho; rw [tyO_dK]; decide⟩
theorem bad_twice {n : Nat} {H : Hp} {p a b : Addr} (h : H p = some (.lst [.ref a, .ref b])) (ha : H a = some (.tup [.int 0, .int 1])) (hb : H b = some (.tup [.int 0, .int 1])) : BadOrd n H (.ref p) := by
  by_cases hn : n = 2
  · subst hn
    refine .inr ⟨p, _, rfl, h, by simp, .inr (.inr ⟨[(0, 1), (0, 1)], ⟨⟨_, h, ?_⟩, rfl, fun o ho => ?_⟩, by decide⟩)⟩
    · exact Al.snoc (zs := [[0, 1]]) (ys := [.ref a]) (Al.snoc (zs := []) (ys := []) Al.nil ⟨a, rfl, ha⟩) ⟨b, rfl, hb⟩
    · simp only [List.mem_cons, List.not_mem_nil, or_false, or_self] at ho
      subst ho
      decide
  · exact bad_len h (by simp) (by simpa using fun e => hn e.symm)
theorem bad_row {n : Nat} {H : Hp} {q p : Addr} {os : List (Int × Int)} {us : List V} {k : Nat} {y : V} (h : LoopsAt n H q os) (hq : H q = some (.lst us)) (hk : k < n) (h8 : n ≤ 8) (hy : BadL n H y) (hp : H p = some (.lst (us.take k ++ [y] ++ us.drop (k + 1)))) : BadOrd n H (.ref p) := by
  have ha := h.all hq
  refine .inr ⟨p, _, rfl, hp, ?_, .inr (.inl ⟨fun z hz => ?_, ?_⟩)⟩
  · simp; omega
  · rcases List.mem_append.mp hz with hz | hz
    · rcases List.mem_append.mp hz with hz | hz
      · exact (ha.2 z (List.mem_of_mem_take hz)).1
      · rw [List.mem_singleton.mp hz]; exact hy.1
    · exact (ha.2 z (List.mem_of_mem_drop hz)).1
  · rw [List.all_append, List.all_append]
    have : ([y].all fun y => loopF (n : Int) y H) = false := by simp [hy.2]
    rw [this]
    simp
theorem way3 {n o1 o2 : Int} (h : o2 = 1 ∨ o2 = -1) : loopO n (some (.tup [.int o1, .int (0 - 3 * o2)])) = false := by
  have e : loopO n (some (.tup [.int o1, .int (0 - 3 * o2)])) = (belowF (.int o1) n && wayF (.int (0 - 3 * o2))) := rfl
  rw [e]
  rcases h with rfl | rfl
  · rw [show wayF (.int (0 - 3 * 1)) = false from rfl, Bool.and_false]
  · rw [show wayF (.int (0 - 3 * -1)) = false from rfl, Bool.and_false]
theorem use_cat {l b : Addr} {xs ys : List V} {H : Hp} {Q : VK} (h : H l = some (.lst xs)) (h' : H b = some (.lst ys)) (hl : xs.length + ys.length ≤ sizeLine) (q : newK (.lst (xs ++ ys)) H Q) : kOp' nCat (.ref l) Q (.ref b) H := by
  rw [m_kOp', m_nCat, lstAt, h]
  show optK (lstAt H b) (kNC2 xs H Q)
  rw [lstAt, h']
  exact ⟨hl, q⟩
def spSpoilt  : Sp := fun vs H Q E => ∃ (q : Addr) (c : Int), vs = [.ref q, .int c] ∧ (∃ (n : Nat) (os : List (Int × Int)), LoopsAt n H q os ∧ n ≤ 8 ∧ 0 ≤ c ∧ c < 1000000 ∧ ∀ v H', Ext H H' → BadOrd n H' v → Q v H')
theorem c_spSpoilt  (q : Addr) (c : Int) (H : Hp) (Q : VK) (E : XK) : spSpoilt  [.ref q, .int c] H Q E = (∃ (n : Nat) (os : List (Int × Int)), LoopsAt n H q os ∧ n ≤ 8 ∧ 0 ≤ c ∧ c < 1000000 ∧ ∀ v H', Ext H H' → BadOrd n H' v → Q v H') := spx2 (f := fun (q : Addr) (c : Int) => [.ref q, .int c]) (fun _ _ _ _ h => by cases h; exact ⟨rfl, rfl⟩) q c
theorem l_spSpoilt  {vs : List V} {H : Hp} {Q : VK} {E : XK} (h : spSpoilt  vs H Q E) : vs.length = 2 := spl2 h fun _ _ => rfl
theorem ok__law_spoilt (T : Tx K mg t) : FnOk P w K mg base CX0 1 t.a__law_spoilt t.d__law_spoilt ["_law_order_here", "_law_cell"] spSpoilt := by
  refine T.F__law_spoilt.ok c__law_spoilt (fun vs H Q E h => l_spSpoilt h) (fun cdv A outer s H vs Q E hr h => ?_)
  · obtain ⟨q, c, rfl, n, os, hos, h8, hc0, hc1, kk⟩ := h
    obtain ⟨us, hq, al⟩ := hos.1
    have hul : us.length = n := (hos.all hq).1
    have hul' : (us.length : Int) = (n : Int) := by omega
    have hlq := hq
    have eT : Ext H H := Ext.refl _
    have bs : AllBad n H [] := AllBad.nil
    have hu1 : n + 1 ≤ sizeLine := len5000 (by omega)
    refine ⟨_, (@pss_cons _ _ _ _ _ (@ps_set _ _ (2) _ _ _ _ c__law_spoilt.nd rfl (Or.inl rfl) (@pe_callB _ _ _ _ _ _ _ ("len") _ call_qLen (by rfl) T.z_len (by decide +kernel) (@pa_c _ _ _ _ _ (@pvN _ 0 _ _ (by rfl) (by first | exact Or.inl rfl | exact Or.inr (Or.inl rfl) | exact Or.inr (Or.inr rfl)) (by decide) (by decide)) (@pa_nil _) (by rfl)) (by decide) (by decide) (by rfl) (by rfl)) (by rfl) (by first | exact .inl rfl | exact .inr rfl | assumption)) (@pss_cons _ _ _ _ _ (@ps_set _ _ (3) _ _ _ _ c__law_spoilt.nd rfl (Or.inl rfl) (@pe_qLst _ _ _ _ (@pa_c _ _ _ _ _ (@pe_callTy _ _ _ _ _ _ _ _ _ call_nTuple (by rfl) T.z_tuple (by decide +kernel) (@pa_c _ _ _ _ _ (@pvN _ 0 _ _ (by rfl) (by first | exact Or.inl rfl | exact Or.inr (Or.inl rfl) | exact Or.inr (Or.inr rfl)) (by decide) (by decide)) (@pa_nil _) (by rfl)) (by decide) (by decide) (by rfl) (by rfl)) (@pa_c _ _ _ _ _ (@pe_non _ _ _) (@pa_c _ _ _ _ _ (@pvN _ 2 _ _ (by rfl) (by first | exact Or.inl rfl | exact Or.inr (Or.inl rfl) | exact Or.inr (Or.inr rfl)) (by decide) (by decide)) (@pa_c _ _ _ _ _ (@pe_op _ _ _ _ _ _ _ _ op_nCat (@pvN _ 0 _ _ (by rfl) (by first | exact Or.inl rfl | exact Or.inr (Or.inl rfl) | exact Or.inr (Or.inr rfl)) (by decide) (by decide)) (@pe_qLst _ _ _ _ (@pa_c _ _ _ _ _ (@pe_qTup _ _ _ _ _ (@pa_c _ _ _ _ _ (@pvN _ 2 _ _ (by rfl) (by first | exact Or.inl rfl | exact Or.inr (Or.inl rfl) | exact Or.inr (Or.inr rfl)) (by decide) (by decide)) (@pa_c _ _ _ _ _ (@pe_int _ _ _ _) (@pa_nil _) (by rfl)) (by rfl))) (@pa_nil _) (by rfl)))) (@pa_c _ _ _ _ _ (@pe_op _ _ _ _ _ _ _ _ op_nCat (@pvN _ 0 _ _ (by rfl) (by first | exact Or.inl rfl | exact Or.inr (Or.inl rfl) | exact Or.inr (Or.inr rfl)) (by decide) (by decide)) (@pe_qLst _ _ _ _ (@pa_c _ _ _ _ _ (@pe_qTup _ _ _ _ _ (@pa_c _ _ _ _ _ (@pe_int _ _ _ _) (@pa_c _ _ _ _ _ (@pe_int _ _ _ _) (@pa_nil _) (by rfl)) (by rfl))) (@pa_nil _) (by rfl)))) (@pa_c _ _ _ _ _ (@pe_qLst _ _ _ _ (@pa_c _ _ _ _ _ (@pe_qTup _ _ _ _ _ (@pa_c _ _ _ _ _ (@pe_int _ _ _ _) (@pa_c _ _ _ _ _ (@pe_int _ _ _ _) (@pa_nil _) (by rfl)) (by rfl))) (@pa_c _ _ _ _ _ (@pe_qTup _ _ _ _ _ (@pa_c _ _ _ _ _ (@pe_int _ _ _ _) (@pa_c _ _ _ _ _ (@pe_int _ _ _ _) (@pa_nil _) (by rfl)) (by rfl))) (@pa_nil _) (by rfl)) (by rfl))) (@pa_c _ _ _ _ _ (@pe_nDNew _ _) (@pa_nil _) (by rfl)) (by rfl)) (by rfl)) (by rfl)) (by rfl)) (by rfl)) (by rfl))) (by rfl) (by first | exact .inl rfl | exact .inr rfl | assumption)) (@pss_cons _ _ _ _ _ (@ps_if _ _ _ _ _ _ _ _ (@pt_cmpRN _ _ _ _ _ _ _ _ on_gt (@pvN _ 2 _ _ (by rfl) (by first | exact Or.inl rfl | exact Or.inr (Or.inl rfl) | exact Or.inr (Or.inr rfl)) (by decide) (by decide)) (@pe_int _ _ _ _) (nomark _)) (@pss_cons _ _ _ _ _ (@ps_set _ _ (4) _ _ _ _ c__law_spoilt.nd rfl (Or.inr rfl) (@pe_op _ _ _ _ _ _ _ _ on_mod (@pe_op _ _ _ _ _ _ _ _ on_fdiv (@pvN _ 1 _ _ (by rfl) (by first | exact Or.inl rfl | exact Or.inr (Or.inl rfl) | exact Or.inr (Or.inr rfl)) (by decide) (by decide)) (@pe_int _ _ _ _)) (@pvN _ 2 _ _ (by rfl) (by first | exact Or.inl rfl | exact Or.inr (Or.inl rfl) | exact Or.inr (Or.inr rfl)) (by decide) (by decide))) (by rfl) (by first | exact .inl rfl | exact .inr rfl | assumption)) (@pss_cons _ _ _ _ _ (@ps_asg _ _ _ _ _ _ (@pe_ix _ _ _ _ _ _ _ ix_q (@pvN _ 0 _ _ (by rfl) (by first | exact Or.inl rfl | exact Or.inr (Or.inl rfl) | exact Or.inr (Or.inr rfl)) (by decide) (by decide)) (@pvN _ 4 _ _ (by rfl) (by first | exact Or.inl rfl | exact Or.inr (Or.inl rfl) | exact Or.inr (Or.inr rfl)) (by decide) (by decide)) (fun _ _ => rfl)) ((@pg_tup _ _ _ _ _ (2) rfl (@pgs_consN _ _ _ _ _ (@pg_name _ _ (5) _ c__law_spoilt.nd rfl (Or.inl rfl) (by first | exact .inl rfl | exact .inr rfl | assumption)) (@pgs_consN _ _ _ _ _ (@pg_name _ _ (6) _ c__law_spoilt.nd rfl (Or.inl rfl) (by first | exact .inl rfl | exact .inr rfl | assumption)) (@pgs_nilN _) (by rfl)) (by rfl)) (by rfl) (by rfl)).mono fun _ _ _ _ h => gTup_q h) (by rfl) (by rfl) (by rfl)) (@pss_cons _ _ _ _ _ (@ps_set _ _ (7) _ _ _ _ c__law_spoilt.nd rfl (Or.inl rfl) (@pe_qLst _ _ _ _ (@pa_c _ _ _ _ _ (@pe_qTup _ _ _ _ _ (@pa_c _ _ _ _ _ (@pvN _ 5 _ _ (by rfl) (by first | exact Or.inl rfl | exact Or.inr (Or.inl rfl) | exact Or.inr (Or.inr rfl)) (by decide) (by decide)) (@pa_c _ _ _ _ _ (@pe_int _ _ _ _) (@pa_nil _) (by rfl)) (by rfl))) (@pa_c _ _ _ _ _ (@pe_qTup _ _ _ _ _ (@pa_c _ _ _ _ _ (@pvN _ 5 _ _ (by rfl) (by first | exact Or.inl rfl | exact Or.inr (Or.inl rfl) | exact Or.inr (Or.inr rfl)) (by decide) (by decide)) (@pa_c _ _ _ _ _ (@pe_int _ _ _ _) (@pa_nil _) (by rfl)) (by rfl))) (@pa_c _ _ _ _ _ (@pe_qTup _ _ _ _ _ (@pa_c _ _ _ _ _ (@pvN _ 5 _ _ (by rfl) (by first | exact Or.inl rfl | exact Or.inr (Or.inl rfl) | exact Or.inr (Or.inr rfl)) (by decide) (by decide)) (@pa_c _ _ _ _ _ (@pe_bl _ _ _ _) (@pa_nil _) (by rfl)) (by rfl))) (@pa_c _ _ _ _ _ (@pe_qTup _ _ _ _ _ (@pa_c _ _ _ _ _ (@pvN _ 2 _ _ (by rfl) (by first | exact Or.inl rfl | exact Or.inr (Or.inl rfl) | exact Or.inr (Or.inr rfl)) (by decide) (by decide)) (@pa_c _ _ _ _ _ (@pvN _ 6 _ _ (by rfl) (by first | exact Or.inl rfl | exact Or.inr (Or.inl rfl) | exact Or.inr (Or.inr rfl)) (by decide) (by decide)) (@pa_nil _) (by rfl)) (by rfl))) (@pa_c _ _ _ _ _ (@pe_qTup _ _ _ _ _ (@pa_c _ _ _ _ _ (@pe_un _ _ _ _ _ _ un_negN (@pe_int _ _ _ _)) (@pa_c _ _ _ _ _ (@pvN _ 6 _ _ (by rfl) (by first | exact Or.inl rfl | exact Or.inr (Or.inl rfl) | exact Or.inr (Or.inr rfl)) (by decide) (by decide)) (@pa_nil _) (by rfl)) (by rfl))) (@pa_c _ _ _ _ _ (@pe_qTup _ _ _ _ _ (@pa_c _ _ _ _ _ (@pe_callTy _ _ _ _ _ _ _ _ _ call_qStr (by rfl) T.z_str (by decide +kernel) (@pa_c _ _ _ _ _ (@pvN _ 5 _ _ (by rfl) (by first | exact Or.inl rfl | exact Or.inr (Or.inl rfl) | exact Or.inr (Or.inr rfl)) (by decide) (by decide)) (@pa_nil _) (by rfl)) (by decide) (by decide) (by rfl) (by rfl)) (@pa_c _ _ _ _ _ (@pvN _ 6 _ _ (by rfl) (by first | exact Or.inl rfl | exact Or.inr (Or.inl rfl) | exact Or.inr (Or.inr rfl)) (by decide) (by decide)) (@pa_nil _) (by rfl)) (by rfl))) (@pa_c _ _ _ _ _ (@pe_qTup _ _ _ _ _ (@pa_c _ _ _ _ _ (@pvN _ 5 _ _ (by rfl) (by first | exact Or.inl rfl | exact Or.inr (Or.inl rfl) | exact Or.inr (Or.inr rfl)) (by decide) (by decide)) (@pa_c _ _ _ _ _ (@pvN _ 6 _ _ (by rfl) (by first | exact Or.inl rfl | exact Or.inr (Or.inl rfl) | exact Or.inr (Or.inr rfl)) (by decide) (by decide)) (@pa_c _ _ _ _ _ (@pvN _ 6 _ _ (by rfl) (by first | exact Or.inl rfl | exact Or.inr (Or.inl rfl) | exact Or.inr (Or.inr rfl)) (by decide) (by decide)) (@pa_nil _) (by rfl)) (by rfl)) (by rfl))) (@pa_nil _) (by rfl)) (by rfl)) (by rfl)) (by rfl)) (by rfl)) (by rfl)) (by rfl))) (by rfl) (by first | exact .inl rfl | exact .inr rfl | assumption)) (@pss_cons _ _ _ _ _ (@ps_set _ _ (7) _ _ _ _ c__law_spoilt.nd rfl (Or.inl rfl) (@pe_op _ _ _ _ _ _ _ _ op_nCat (@pvN _ 7 _ _ (by rfl) (by first | exact Or.inl rfl | exact Or.inr (Or.inl rfl) | exact Or.inr (Or.inr rfl)) (by decide) (by decide)) (@pe_qLst _ _ _ _ (@pa_c _ _ _ _ _ (@pe_qLst _ _ _ _ (@pa_c _ _ _ _ _ (@pvN _ 5 _ _ (by rfl) (by first | exact Or.inl rfl | exact Or.inr (Or.inl rfl) | exact Or.inr (Or.inr rfl)) (by decide) (by decide)) (@pa_c _ _ _ _ _ (@pvN _ 6 _ _ (by rfl) (by first | exact Or.inl rfl | exact Or.inr (Or.inl rfl) | exact Or.inr (Or.inr rfl)) (by decide) (by decide)) (@pa_nil _) (by rfl)) (by rfl))) (@pa_c _ _ _ _ _ (@pe_qTup _ _ _ _ _ (@pa_c _ _ _ _ _ (@pvN _ 5 _ _ (by rfl) (by first | exact Or.inl rfl | exact Or.inr (Or.inl rfl) | exact Or.inr (Or.inr rfl)) (by decide) (by decide)) (@pa_nil _) (by rfl))) (@pa_c _ _ _ _ _ (@pe_non _ _ _) (@pa_c _ _ _ _ _ (@pvN _ 5 _ _ (by rfl) (by first | exact Or.inl rfl | exact Or.inr (Or.inl rfl) | exact Or.inr (Or.inr rfl)) (by decide) (by decide)) (@pa_c _ _ _ _ _ (@pe_qTup _ _ _ _ _ (@pa_c _ _ _ _ _ (@pvN _ 5 _ _ (by rfl) (by first | exact Or.inl rfl | exact Or.inr (Or.inl rfl) | exact Or.inr (Or.inr rfl)) (by decide) (by decide)) (@pa_c _ _ _ _ _ (@pe_non _ _ _) (@pa_nil _) (by rfl)) (by rfl))) (@pa_c _ _ _ _ _ (@pe_qTup _ _ _ _ _ (@pa_c _ _ _ _ _ (@pe_non _ _ _) (@pa_c _ _ _ _ _ (@pvN _ 6 _ _ (by rfl) (by first | exact Or.inl rfl | exact Or.inr (Or.inl rfl) | exact Or.inr (Or.inr rfl)) (by decide) (by decide)) (@pa_nil _) (by rfl)) (by rfl))) (@pa_c _ _ _ _ _ (@pe_qTup _ _ _ _ _ (@pa_c _ _ _ _ _ (@pvN _ 5 _ _ (by rfl) (by first | exact Or.inl rfl | exact Or.inr (Or.inl rfl) | exact Or.inr (Or.inr rfl)) (by decide) (by decide)) (@pa_c _ _ _ _ _ (@pe_op _ _ _ _ _ _ _ _ on_sub (@pe_int _ _ _ _) (@pe_op _ _ _ _ _ _ _ _ on_mul (@pe_int _ _ _ _) (@pvN _ 6 _ _ (by rfl) (by first | exact Or.inl rfl | exact Or.inr (Or.inl rfl) | exact Or.inr (Or.inr rfl)) (by decide) (by decide)))) (@pa_nil _) (by rfl)) (by rfl))) (@pa_nil _) (by rfl)) (by rfl)) (by rfl)) (by rfl)) (by rfl)) (by rfl)) (by rfl)))) (by rfl) (by first | exact .inl rfl | exact .inr rfl | assumption)) (@pss_cons _ _ _ _ _ (@ps_expr _ _ _ _ (@pe_bm _ _ _ _ _ _ _ _ _ _ _ _ PySem.F.plainAttrs_list PySem.F.slot_list_append PySem.F.type_list_append mt_append (@pvN _ 7 _ _ (by rfl) (by first | exact Or.inl rfl | exact Or.inr (Or.inl rfl) | exact Or.inr (Or.inr rfl)) (by decide) (by decide)) (@pa_c _ _ _ _ _ (@pe_qTup _ _ _ _ _ (@pa_c _ _ _ _ _ (@pe_cmpR _ _ _ _ _ _ _ _ on_gt (@pvN _ 5 _ _ (by rfl) (by first | exact Or.inl rfl | exact Or.inr (Or.inl rfl) | exact Or.inr (Or.inr rfl)) (by decide) (by decide)) (@pe_int _ _ _ _) (nomark _)) (@pa_c _ _ _ _ _ (@pvN _ 6 _ _ (by rfl) (by first | exact Or.inl rfl | exact Or.inr (Or.inl rfl) | exact Or.inr (Or.inr rfl)) (by decide) (by decide)) (@pa_nil _) (by rfl)) (by rfl))) (@pa_nil _) (by rfl)) (by rfl) (by rfl) (by rfl) (by rfl) (by rfl)) (by rfl)) (@pss_cons _ _ _ _ _ (@ps_set _ _ (3) _ _ _ _ c__law_spoilt.nd rfl (Or.inl rfl) (@pe_op _ _ _ _ _ _ _ _ op_nCat (@pvN _ 3 _ _ (by rfl) (by first | exact Or.inl rfl | exact Or.inr (Or.inl rfl) | exact Or.inr (Or.inr rfl)) (by decide) (by decide)) (@pe_comp _ _ _ _ _ _ _ _ _ _ _ (["_law_row", "_law_order_here", "_law_cell", "_law_axes", "_law_some", "_law_k", "_law_axis", "_law_way", "_law_rows"]) (1) (comp_ok (defScope s__law_spoilt) ["_law_order_here", "_law_cell", "_law_axes", "_law_some", "_law_k", "_law_axis", "_law_way", "_law_rows"] rfl rfl (by decide +kernel)) rfl (@pi_seq _ _ _ _ (@pvN _ 7 _ _ (by rfl) (by first | exact Or.inl rfl | exact Or.inr (Or.inl rfl) | exact Or.inr (Or.inr rfl)) (by decide) (by decide))) (fun C s₀ H₀ ex pn => (@pg_name _ _ (0) _ (show List.Nodup (["_law_row", "_law_order_here", "_law_cell", "_law_axes", "_law_some", "_law_k", "_law_axis", "_law_way", "_law_rows"] : List Str) from by decide +kernel) rfl (Or.inl rfl) (by first | exact .inl rfl | exact .inr rfl | assumption))) (fun C s₀ H₀ ex pn => (@pts_nil _)) (fun C s₀ H₀ ex pn => (@pe_op _ _ _ _ _ _ _ _ op_nCat (@pe_op _ _ _ _ _ _ _ _ op_nCat (@pe_slice _ _ _ _ _ _ _ _ _ _ sl_n (@pvN _ 1 _ _ (by rfl) (by first | exact Or.inl rfl | exact Or.inr (Or.inl rfl) | exact Or.inr (Or.inr rfl)) (by decide) (by decide)) (@po_none _) (@po_some _ _ _ (@pvN _ 5 _ _ (by rfl) (by first | exact Or.inl rfl | exact Or.inr (Or.inl rfl) | exact Or.inr (Or.inr rfl)) (by decide) (by decide)))) (@pe_qLst _ _ _ _ (@pa_c _ _ _ _ _ (@pvN _ 0 _ _ (by rfl) (by first | exact Or.inl rfl | exact Or.inr (Or.inl rfl) | exact Or.inr (Or.inr rfl)) (by decide) (by decide)) (@pa_nil _) (by rfl)))) (@pe_slice _ _ _ _ _ _ _ _ _ _ sl_n (@pvN _ 1 _ _ (by rfl) (by first | exact Or.inl rfl | exact Or.inr (Or.inl rfl) | exact Or.inr (Or.inr rfl)) (by decide) (by decide)) (@po_some _ _ _ (@pe_op _ _ _ _ _ _ _ _ on_add (@pvN _ 5 _ _ (by rfl) (by first | exact Or.inl rfl | exact Or.inr (Or.inl rfl) | exact Or.inr (Or.inr rfl)) (by decide) (by decide)) (@pe_int _ _ _ _))) (@po_none _)))) (by intros; rfl))) (by rfl) (by first | exact .inl rfl | exact .inr rfl | assumption)) (@pss_one _ _ _ (@ps_set _ _ (3) _ _ _ _ c__law_spoilt.nd rfl (Or.inl rfl) (@pe_op _ _ _ _ _ _ _ _ op_nCat (@pvN _ 3 _ _ (by rfl) (by first | exact Or.inl rfl | exact Or.inr (Or.inl rfl) | exact Or.inr (Or.inr rfl)) (by decide) (by decide)) (@pe_qLst _ _ _ _ (@pa_c _ _ _ _ _ (@pe_op _ _ _ _ _ _ _ _ op_nCat (@pe_slice _ _ _ _ _ _ _ _ _ _ sl_n (@pvN _ 0 _ _ (by rfl) (by first | exact Or.inl rfl | exact Or.inr (Or.inl rfl) | exact Or.inr (Or.inr rfl)) (by decide) (by decide)) (@po_none _) (@po_some _ _ _ (@pvN _ 4 _ _ (by rfl) (by first | exact Or.inl rfl | exact Or.inr (Or.inl rfl) | exact Or.inr (Or.inr rfl)) (by decide) (by decide)))) (@pe_slice _ _ _ _ _ _ _ _ _ _ sl_n (@pvN _ 0 _ _ (by rfl) (by first | exact Or.inl rfl | exact Or.inr (Or.inl rfl) | exact Or.inr (Or.inr rfl)) (by decide) (by decide)) (@po_some _ _ _ (@pe_op _ _ _ _ _ _ _ _ on_add (@pvN _ 4 _ _ (by rfl) (by first | exact Or.inl rfl | exact Or.inr (Or.inl rfl) | exact Or.inr (Or.inr rfl)) (by decide) (by decide)) (@pe_int _ _ _ _))) (@po_none _))) (@pa_c _ _ _ _ _ (@pe_op _ _ _ _ _ _ _ _ op_nCat (@pe_op _ _ _ _ _ _ _ _ op_nCat (@pe_slice _ _ _ _ _ _ _ _ _ _ sl_n (@pvN _ 0 _ _ (by rfl) (by first | exact Or.inl rfl | exact Or.inr (Or.inl rfl) | exact Or.inr (Or.inr rfl)) (by decide) (by decide)) (@po_none _) (@po_some _ _ _ (@pvN _ 4 _ _ (by rfl) (by first | exact Or.inl rfl | exact Or.inr (Or.inl rfl) | exact Or.inr (Or.inr rfl)) (by decide) (by decide)))) (@pe_qLst _ _ _ _ (@pa_c _ _ _ _ _ (@pe_ix _ _ _ _ _ _ _ ix_q (@pvN _ 0 _ _ (by rfl) (by first | exact Or.inl rfl | exact Or.inr (Or.inl rfl) | exact Or.inr (Or.inr rfl)) (by decide) (by decide)) (@pvN _ 4 _ _ (by rfl) (by first | exact Or.inl rfl | exact Or.inr (Or.inl rfl) | exact Or.inr (Or.inr rfl)) (by decide) (by decide)) (fun _ _ => rfl)) (@pa_nil _) (by rfl)))) (@pe_slice _ _ _ _ _ _ _ _ _ _ sl_n (@pvN _ 0 _ _ (by rfl) (by first | exact Or.inl rfl | exact Or.inr (Or.inl rfl) | exact Or.inr (Or.inr rfl)) (by decide) (by decide)) (@po_some _ _ _ (@pvN _ 4 _ _ (by rfl) (by first | exact Or.inl rfl | exact Or.inr (Or.inl rfl) | exact Or.inr (Or.inr rfl)) (by decide) (by decide))) (@po_none _))) (@pa_nil _) (by rfl)) (by rfl)))) (by rfl) (by first | exact .inl rfl | exact .inr rfl | assumption))))))))) (@pss_nil _)) (@pss_one _ _ _ (@ps_ret _ _ _ _ (@pe_ix _ _ _ _ _ _ _ ix_q (@pvN _ 3 _ _ (by rfl) (by first | exact Or.inl rfl | exact Or.inr (Or.inl rfl) | exact Or.inr (Or.inr rfl)) (by decide) (by decide)) (@pe_op _ _ _ _ _ _ _ _ on_mod (@pvN _ 1 _ _ (by rfl) (by first | exact Or.inl rfl | exact Or.inr (Or.inl rfl) | exact Or.inr (Or.inr rfl)) (by decide) (by decide)) (@pe_callB _ _ _ _ _ _ _ ("len") _ call_qLen (by rfl) T.z_len (by decide +kernel) (@pa_c _ _ _ _ _ (@pvN _ 3 _ _ (by rfl) (by first | exact Or.inl rfl | exact Or.inr (Or.inl rfl) | exact Or.inr (Or.inr rfl)) (by decide) (by decide)) (@pa_nil _) (by rfl)) (by decide) (by decide) (by rfl) (by rfl))) (fun _ _ => rfl))))))), ?_⟩
    rw [show start ["_law_order_here", "_law_cell", "_law_axes", "_law_some", "_law_k", "_law_axis", "_law_way", "_law_rows"] [.ref q, .int c] = [some (.ref q), some (.int c), none, none, none, none, none, none] from rfl]
    simp_all (failIfUnchanged := false) only [and_true]
    intro p0 H0 hp0 e0 h0
    replace hq := e0.at hq
    replace eT := eT.trans e0
    replace bs := bs.ext e0
    clear hp0 e0
    have b0 : BadOrd n H0 (.ref p0) := bad_tup h0
    replace bs := ((bs.snoc b0).snoc (bad_flat (x := .non) trivial)).snoc (bad_flat (x := .int n) trivial)
    clear b0 h0
    simp_all (failIfUnchanged := false) only [and_true]
    intro p1 H1 hp1 e1 h1
    replace hq := e1.at hq
    replace eT := eT.trans e1
    replace bs := bs.ext e1
    clear hp1 e1
    clear h1
    simp_all (failIfUnchanged := false) only [and_true]
    intro p2 H2 hp2 e2 h2
    replace hq := e2.at hq
    replace eT := eT.trans e2
    replace bs := bs.ext e2
    clear hp2 e2
    simp_all (failIfUnchanged := false) only [and_true]
    intro p3 H3 hp3 e3 h3
    replace hq := e3.at hq
    replace eT := eT.trans e3
    replace bs := bs.ext e3
    clear hp3 e3
    clear h2
    replace bs := bs.snoc (bad_len h3 (by simp; omega) (by simp; omega))
    clear h3
    simp_all (failIfUnchanged := false) only [and_true]
    intro p4 H4 hp4 e4 h4
    replace hq := e4.at hq
    replace eT := eT.trans e4
    replace bs := bs.ext e4
    clear hp4 e4
    clear h4
    simp_all (failIfUnchanged := false) only [and_true]
    intro p5 H5 hp5 e5 h5
    replace hq := e5.at hq
    replace eT := eT.trans e5
    replace bs := bs.ext e5
    clear hp5 e5
    simp_all (failIfUnchanged := false) only [and_true]
    intro p6 H6 hp6 e6 h6
    replace hq := e6.at hq
    replace eT := eT.trans e6
    replace bs := bs.ext e6
    clear hp6 e6
    clear h5
    replace bs := bs.snoc (bad_len h6 (by simp; omega) (by simp; omega))
    clear h6
    simp_all (failIfUnchanged := false) only [and_true]
    intro p7 H7 hp7 e7 h7
    replace hq := e7.at hq
    replace eT := eT.trans e7
    replace bs := bs.ext e7
    clear hp7 e7
    simp_all (failIfUnchanged := false) only [and_true]
    intro p8 H8 hp8 e8 h8
    replace hq := e8.at hq
    replace eT := eT.trans e8
    replace bs := bs.ext e8
    replace h7 := e8.at h7
    clear hp8 e8
    simp_all (failIfUnchanged := false) only [and_true]
    intro p9 H9 hp9 e9 h9
    replace hq := e9.at hq
    replace eT := eT.trans e9
    replace bs := bs.ext e9
    replace h7 := e9.at h7
    replace h8 := e9.at h8
    clear hp9 e9
    replace bs := bs.snoc (bad_twice h9 h7 h8)
    clear h7 h8 h9
    simp_all (failIfUnchanged := false) only [and_true]
    intro p10 H10 hp10 e10 h10
    replace hq := e10.at hq
    replace eT := eT.trans e10
    replace bs := bs.ext e10
    clear hp10 e10
    replace bs := bs.snoc (bad_dict h10)
    clear h10
    simp_all (failIfUnchanged := false) only [and_true]
    intro p11 H11 hp11 e11 h11
    replace hq := e11.at hq
    replace eT := eT.trans e11
    replace bs := bs.ext e11
    clear hp11 e11
    simp only [List.nil_append, List.cons_append] at bs
    simp_all (failIfUnchanged := false) only [-m_tIfS]
    have hsl : [V.ref p0, V.non, V.int ↑n, V.ref p3, V.ref p6, V.ref p9, V.ref p10].length = 7 := rfl
    generalize [V.ref p0, V.non, V.int ↑n, V.ref p3, V.ref p6, V.ref p9, V.ref p10] = ss at h11 bs hsl
    refine if_gen (fun σ' H' => ∃ (p : Addr) (ws : List V) (v4 v5 v6 v7 : Option V), σ' = [some (.ref q), some (.int c), some (.int (n : Int)), some (.ref p), v4, v5, v6, v7] ∧ Ext H H' ∧ H' p = some (.lst ws) ∧ AllBad n H' ws ∧ 0 < ws.length ∧ ws.length ≤ 60) (fun nx' hx => ?_) ?_
    · by_cases hn : n = 0
      · have hx' := hx _ H11 ⟨p11, ss, none, none, none, none, rfl, eT, h11, bs, by omega, by omega⟩
        have hn' : ¬ ((0 : Int) < (n : Int)) := by omega
        clear hx kk bs hn
        simp_all (failIfUnchanged := false) only [and_true]
      · have hn0 : (0 : Int) < (n : Int) := by omega
        obtain ⟨kz, hkz⟩ : ∃ kz, c / 32 % (n : Int) = kz := ⟨_, rfl⟩
        have kz0 : 0 ≤ kz := by rw [← hkz]; exact Int.emod_nonneg _ (by omega)
        have kz1 : kz < n := by rw [← hkz]; exact Int.emod_lt_of_pos _ hn0
        obtain ⟨kn, rfl⟩ := Int.eq_ofNat_of_zero_le kz0
        have hku : kn < us.length := by omega
        have hko : kn < os.length := by have := hos.2.1; omega
        obtain ⟨w, hw1, hw⟩ := al.2 kn [os[kn].1, os[kn].2] us[kn] (by rw [List.getElem?_map, List.getElem?_eq_getElem hko]; rfl) (List.getElem?_eq_getElem hku)
        have hat : atI us (kn : Int) = some (.ref w) := atI_nat (by rw [List.getElem?_eq_getElem hku, hw1])
        have hb := hos.2.2 os[kn] (List.getElem_mem hko)
        replace hw : H w = some (.tup [.int os[kn].1, .int os[kn].2]) := hw
        generalize os[kn] = oo at hw hb
        obtain ⟨o1, o2⟩ := oo
        dsimp only at hw hb
        have hw11 := eT.at hw
        replace hx := fun (_ : Unit) => hx
        replace kk := fun (_ : Unit) => kk
        have rl : AllBadL n H11 [] := AllBadL.nil
        have hlog : o1.natAbs.log2 < 1920 := by have := Nat.log2_le_self o1.natAbs; omega
        clear hw1 hn al
        simp_all (failIfUnchanged := false) only [and_true]
        intro p12 H12 hp12 e12 h12
        replace hq := e12.at hq
        replace eT := eT.trans e12
        replace bs := bs.ext e12
        replace rl := rl.ext e12
        replace h11 := e12.at h11
        clear hp12 e12
        clear hw11
        replace rl := rl.snoc (badL_tup h12 rfl (by show (_ && false) = false; exact Bool.and_false _))
        clear h12
        simp_all (failIfUnchanged := false) only [and_true]
        intro p13 H13 hp13 e13 h13
        replace hq := e13.at hq
        replace eT := eT.trans e13
        replace bs := bs.ext e13
        replace rl := rl.ext e13
        replace h11 := e13.at h11
        clear hp13 e13
        replace rl := rl.snoc (badL_tup h13 rfl (by show (_ && false) = false; exact Bool.and_false _))
        clear h13
        simp_all (failIfUnchanged := false) only [and_true]
        intro p14 H14 hp14 e14 h14
        replace hq := e14.at hq
        replace eT := eT.trans e14
        replace bs := bs.ext e14
        replace rl := rl.ext e14
        replace h11 := e14.at h11
        clear hp14 e14
        replace rl := rl.snoc (badL_tup h14 rfl (by show (_ && false) = false; exact Bool.and_false _))
        clear h14
        simp_all (failIfUnchanged := false) only [and_true]
        intro p15 H15 hp15 e15 h15
        replace hq := e15.at hq
        replace eT := eT.trans e15
        replace bs := bs.ext e15
        replace rl := rl.ext e15
        replace h11 := e15.at h11
        clear hp15 e15
        replace rl := rl.snoc (badL_tup h15 rfl (by show ((decide (0 ≤ (n : Int)) && decide ((n : Int) < n)) && _) = false; rw [decide_eq_false (Int.lt_irrefl _), Bool.and_false, Bool.false_and]))
        clear h15
        simp_all (failIfUnchanged := false) only [and_true]
        intro p16 H16 hp16 e16 h16
        replace hq := e16.at hq
        replace eT := eT.trans e16
        replace bs := bs.ext e16
        replace rl := rl.ext e16
        replace h11 := e16.at h11
        clear hp16 e16
        replace rl := rl.snoc (badL_tup h16 rfl rfl)
        clear h16
        simp_all (failIfUnchanged := false) only [and_true]
        intro p17 H17 hp17 e17 h17
        replace hq := e17.at hq
        replace eT := eT.trans e17
        replace bs := bs.ext e17
        replace rl := rl.ext e17
        replace h11 := e17.at h11
        clear hp17 e17
        replace rl := rl.snoc (badL_tup h17 rfl rfl)
        clear h17
        simp_all (failIfUnchanged := false) only [and_true]
        intro p18 H18 hp18 e18 h18
        replace hq := e18.at hq
        replace eT := eT.trans e18
        replace bs := bs.ext e18
        replace rl := rl.ext e18
        replace h11 := e18.at h11
        clear hp18 e18
        replace rl := rl.snoc (badL_tup h18 rfl rfl)
        clear h18
        simp_all (failIfUnchanged := false) only [and_true]
        intro p19 H19 hp19 e19 h19
        replace hq := e19.at hq
        replace eT := eT.trans e19
        replace bs := bs.ext e19
        replace rl := rl.ext e19
        replace h11 := e19.at h11
        clear hp19 e19
        simp only [List.nil_append, List.cons_append] at rl
        have hra : [V.ref p12, V.ref p13, V.ref p14, V.ref p15, V.ref p16, V.ref p17, V.ref p18].length = 7 := rfl
        generalize [V.ref p12, V.ref p13, V.ref p14, V.ref p15, V.ref p16, V.ref p17, V.ref p18] = ra at h19 rl hra
        replace hra := fun (_ : Unit) => hra
        simp_all (failIfUnchanged := false) only [and_true]
        intro p20 H20 hp20 e20 h20
        replace hq := e20.at hq
        replace eT := eT.trans e20
        replace bs := bs.ext e20
        replace rl := rl.ext e20
        replace h11 := e20.at h11
        replace h19 := e20.at h19
        clear hp20 e20
        replace rl := rl.snoc (badL_lst h20)
        clear h20
        simp_all (failIfUnchanged := false) only [and_true]
        intro p21 H21 hp21 e21 h21
        replace hq := e21.at hq
        replace eT := eT.trans e21
        replace bs := bs.ext e21
        replace rl := rl.ext e21
        replace h11 := e21.at h11
        replace h19 := e21.at h19
        clear hp21 e21
        replace rl := rl.snoc (badL_tup h21 rfl rfl)
        replace rl := rl.snoc (badL_flat (x := .non) trivial)
        replace rl := rl.snoc (badL_flat (x := .int o1) trivial)
        clear h21
        simp_all (failIfUnchanged := false) only [and_true]
        intro p22 H22 hp22 e22 h22
        replace hq := e22.at hq
        replace eT := eT.trans e22
        replace bs := bs.ext e22
        replace rl := rl.ext e22
        replace h11 := e22.at h11
        replace h19 := e22.at h19
        clear hp22 e22
        replace rl := rl.snoc (badL_tup h22 rfl (by show (_ && false) = false; exact Bool.and_false _))
        clear h22
        simp_all (failIfUnchanged := false) only [and_true]
        intro p23 H23 hp23 e23 h23
        replace hq := e23.at hq
        replace eT := eT.trans e23
        replace bs := bs.ext e23
        replace rl := rl.ext e23
        replace h11 := e23.at h11
        replace h19 := e23.at h19
        clear hp23 e23
        replace rl := rl.snoc (badL_tup h23 rfl rfl)
        clear h23
        simp_all (failIfUnchanged := false) only [and_true]
        intro p24 H24 hp24 e24 h24
        replace hq := e24.at hq
        replace eT := eT.trans e24
        replace bs := bs.ext e24
        replace rl := rl.ext e24
        replace h11 := e24.at h11
        replace h19 := e24.at h19
        clear hp24 e24
        replace rl := rl.snoc (badL_tup h24 rfl (way3 hb.2))
        clear h24
        simp_all (failIfUnchanged := false) only [and_true]
        intro p25 H25 hp25 e25 h25
        replace hq := e25.at hq
        replace eT := eT.trans e25
        replace bs := bs.ext e25
        replace rl := rl.ext e25
        replace h11 := e25.at h11
        replace h19 := e25.at h19
        clear hp25 e25
        simp only [List.append_assoc, List.nil_append, List.cons_append] at rl
        have hrb : [V.ref p20, V.ref p21, V.non, V.int o1, V.ref p22, V.ref p23, V.ref p24].length = 7 := rfl
        generalize [V.ref p20, V.ref p21, V.non, V.int o1, V.ref p22, V.ref p23, V.ref p24] = rb at h25 rl hrb
        have hrab : ra.length + rb.length ≤ sizeLine := len5000 (by rw [hra (), hrb]; decide)
        replace hrb := fun (_ : Unit) => hrb
        refine use_cat h19 h25 hrab ?_
        intro p26 H26 hp26 e26 h26
        replace hrab : (ra ++ rb).length = 14 := by rw [List.length_append, hra (), hrb ()]
        generalize ra ++ rb = rc at h26 rl hrab
        have hrc : rc.length < sizeLine := lt5000 (by omega)
        replace hrab := fun (_ : Unit) => hrab
        clear h19 h25 hra hrb
        simp_all (failIfUnchanged := false) only [and_true]
        intro p27 H27 hp27 e27 h27
        replace h26 := e27.at h26
        have hne : p27 ≠ p26 := fun z => by rw [z, h26] at h27; cases h27
        clear hp27
        simp_all (failIfUnchanged := false) only [and_true]
        have e28 : Ext H25 (upd H27 p26 (HO.lst (rc ++ [V.ref p27]))) := (e26.trans e27).put hp26
        have h28 : (upd H27 p26 (HO.lst (rc ++ [V.ref p27]))) p26 = some (.lst (rc ++ [V.ref p27])) := upd_same
        replace h27 : (upd H27 p26 (HO.lst (rc ++ [V.ref p27]))) p27 = some (HO.tup [V.bl (decide (0 < o1)), V.int o2]) := by rw [upd_ne hne]; exact h27
        generalize upd H27 p26 (HO.lst (rc ++ [V.ref p27])) = H28 at e28 h28 h27 ⊢
        replace hq := e28.at hq
        replace eT := eT.trans e28
        replace bs := bs.ext e28
        replace rl := (rl.ext e28).snoc (badL_tup h27 rfl rfl)
        replace h11 := e28.at h11
        have hrl : (rc ++ [V.ref p27]).length = 15 := by rw [List.length_append, hrab ()]; rfl
        generalize rc ++ [V.ref p27] = rd at h28 rl hrl
        clear e28 e26 e27 hp26 h26 hne hrc hrab h27
        replace hos := hos.ext eT
        refine comp_rel rd (fun _ => true) (fun z x _ => x = z) (fun D z y H' => ∃ q', y = .ref q' ∧ q' ≠ D ∧ H' q' = some (.lst (us.take kn ++ [z] ++ us.drop (kn + 1)))) (fun i z H' hz e => ⟨((wk_lst (K := K) h28).1 i z H' hz e).1, fun x H'' y => ⟨(((wk_lst (K := K) h28).1 i z H' hz e).2 x H'' y).1, (((wk_lst (K := K) h28).1 i z H' hz e).2 x H'' y).2.1⟩⟩) (wk_lst h28).2 (fun D _ y H1 H2 ⟨q, h1, h2, h3⟩ e => ⟨q, h1, h2, e.at h3⟩) (fun D _ y H1 o ⟨q, h1, h2, h3⟩ => ⟨q, h1, h2, by rw [upd_ne h2]; exact h3⟩) (len5000 (by omega)) ?_ ?_
        · intro D z y G0 N1 N0 hz hD e ⟨ys0, hys0⟩ hx' kc _
          subst hx'
          have kc' := kc rfl
          replace hq := e.at hq
          clear kc hz bs rl h11 h28 hD e
          simp_all (failIfUnchanged := false) only [and_true]
          intro a1 G1 ha1 f1 g1
          rw [cut_none us _ kz0, Int.toNat_natCast] at g1
          replace hq := f1.at hq
          simp_all (failIfUnchanged := false) only [and_true]
          intro a2 G2 ha2 f2 g2
          replace g1 := f2.at g1
          replace hq := f2.at hq
          refine use_cat g1 g2 (len5000 (by rw [List.length_take, List.length_singleton]; omega)) ?_
          intro a3 G3 ha3 f3 g3
          replace hq := f3.at hq
          clear g1 g2
          simp_all (failIfUnchanged := false) only [and_true]
          intro a4 G4 ha4 f4 g4
          rw [cut_some us _ (by omega), show ((kn : Int) + 1).toNat = kn + 1 by omega] at g4
          replace g3 := f4.at g3
          refine use_cat g3 g4 (len5000 (by rw [List.length_append, List.length_take, List.length_singleton, List.length_drop]; omega)) ?_
          intro a5 G5 ha5 f5 g5
          have f05 := f1.trans (f2.trans (f3.trans (f4.trans f5)))
          exact kc' _ G5 f05 ⟨a5, rfl, (fun e => by rw [e, ((f1.trans (f2.trans (f3.trans f4))).at hys0)] at ha5; cases ha5), g5⟩
        intro D ws H29 hD e29 hD29 al29
        rw [filt] at al29
        replace h11 := e29.at h11
        replace hq := e29.at hq
        replace eT := eT.trans e29
        replace hos := hos.ext e29
        replace bs := bs.ext e29
        replace rl := rl.ext e29
        have bw : AllBad n H29 ws := fun v hv => by
          obtain ⟨i, hi, rfl⟩ := List.mem_iff_getElem.mp hv
          have hi' : i < rd.length := by have := al29.1; omega
          obtain ⟨q', h1, _, h3⟩ := al29.2 i rd[i] ws[i] (List.getElem?_eq_getElem hi') (List.getElem?_eq_getElem hi)
          rw [h1]
          exact bad_row hos hq (by omega) h8 (rl _ (List.getElem_mem hi')) h3
        have hwl : ws.length = 15 := by rw [al29.1]; exact hrl
        clear hD e29 al29 h28 rl
        refine use_cat h11 hD29 (len5000 (by omega)) ?_
        intro p30 H30 hp30 e30 h30
        replace bs : AllBad n H30 (ss ++ ws) := fun v hv => ((List.mem_append.mp hv).elim (bs v) (bw v)).ext e30
        replace hq := e30.at hq
        replace eT := eT.trans e30
        have hsw : (ss ++ ws).length = 22 := by rw [List.length_append, hsl, hwl]
        generalize ss ++ ws = sw at h30 bs hsw
        replace hsw := fun (_ : Unit) => hsw
        clear hp30 e30 h11 hD29 bw hwl hsl hrl
        simp_all (failIfUnchanged := false) only [and_true]
        intro p31 H31 hp31 e31 h31
        replace hq := e31.at hq
        replace eT := eT.trans e31
        replace bs := bs.ext e31
        replace h30 := e31.at h30
        clear hp31 e31
        rw [cut_none us _ kz0, Int.toNat_natCast] at h31
        simp_all (failIfUnchanged := false) only [and_true]
        intro p32 H32 hp32 e32 h32
        replace hq := e32.at hq
        replace eT := eT.trans e32
        replace bs := bs.ext e32
        replace h30 := e32.at h30
        replace h31 := e32.at h31
        clear hp32 e32
        rw [cut_some us _ (by omega), show ((kn : Int) + 1).toNat = kn + 1 by omega] at h32
        refine use_cat h31 h32 (len5000 (by rw [List.length_take, List.length_drop]; omega)) ?_
        intro p33 H33 hp33 e33 h33
        replace hq := e33.at hq
        replace eT := eT.trans e33
        replace bs := bs.ext e33
        replace h30 := e33.at h30
        clear hp33 e33
        replace bs := bs.snoc (bad_len h33 (by rw [List.length_append, List.length_take, List.length_drop]; omega) (by rw [List.length_append, List.length_take, List.length_drop]; omega))
        clear h31 h32 h33
        simp_all (failIfUnchanged := false) only [and_true]
        intro p34 H34 hp34 e34 h34
        replace hq := e34.at hq
        replace eT := eT.trans e34
        replace bs := bs.ext e34
        replace h30 := e34.at h30
        clear hp34 e34
        rw [cut_none us _ kz0, Int.toNat_natCast] at h34
        simp_all (failIfUnchanged := false) only [and_true]
        intro p35 H35 hp35 e35 h35
        replace hq := e35.at hq
        replace eT := eT.trans e35
        replace bs := bs.ext e35
        replace h30 := e35.at h30
        replace h34 := e35.at h34
        clear hp35 e35
        refine use_cat h34 h35 (len5000 (by rw [List.length_take, List.length_singleton]; omega)) ?_
        intro p36 H36 hp36 e36 h36
        replace hq := e36.at hq
        replace eT := eT.trans e36
        replace bs := bs.ext e36
        replace h30 := e36.at h30
        clear hp36 e36
        clear h34 h35
        simp_all (failIfUnchanged := false) only [and_true]
        intro p37 H37 hp37 e37 h37
        replace hq := e37.at hq
        replace eT := eT.trans e37
        replace bs := bs.ext e37
        replace h30 := e37.at h30
        replace h36 := e37.at h36
        clear hp37 e37
        rw [cut_some us _ (by omega), Int.toNat_natCast] at h37
        refine use_cat h36 h37 (len5000 (by rw [List.length_append, List.length_take, List.length_singleton, List.length_drop]; omega)) ?_
        intro p38 H38 hp38 e38 h38
        replace hq := e38.at hq
        replace eT := eT.trans e38
        replace bs := bs.ext e38
        replace h30 := e38.at h30
        clear hp38 e38
        replace bs := bs.snoc (bad_len h38 (by rw [List.length_append, List.length_append, List.length_take, List.length_singleton, List.length_drop]; omega) (by rw [List.length_append, List.length_append, List.length_take, List.length_singleton, List.length_drop]; omega))
        clear h36 h37 h38
        simp_all (failIfUnchanged := false) only [and_true]
        intro p39 H39 hp39 e39 h39
        replace hq := e39.at hq
        replace eT := eT.trans e39
        replace bs := bs.ext e39
        replace h30 := e39.at h30
        clear hp39 e39
        refine use_cat h30 h39 (len5000 (by rw [hsw ()]; simp)) ?_
        intro p40 H40 hp40 e40 h40
        replace hq := e40.at hq
        replace eT := eT.trans e40
        replace bs := bs.ext e40
        clear hp40 e40
        rw [List.append_assoc] at bs
        have hx' := hx () _ H40 ⟨p40, _, some (.int (kn : Int)), some (.int o1), some (.int o2), some (.ref p26), rfl, eT, h40, bs, by rw [List.length_append, hsw ()]; simp, by rw [List.length_append, hsw ()]; simp⟩
        clear hx kk bs h30 h39
        simp_all (failIfUnchanged := false) only [and_true]
    rintro _ H50 ⟨p50, ws, v4, v5, v6, v7, rfl, e50, h50, bs50, w0, w1⟩
    have w0' : (0 : Int) < (ws.length : Int) := by omega
    have i0 := Int.emod_nonneg c (show (ws.length : Int) ≠ 0 by omega)
    have i1 := Int.emod_lt_of_pos c w0'
    replace bs50 := fun (_ : Unit) => bs50
    replace kk := fun (_ : Unit) => kk
    clear hq eT bs h11
    simp_all (failIfUnchanged := false) only [and_true]
    exact optK_at i0 i1 fun v hv => kk () v H50 e50 (bs50 () v hv)
theorem prodL_perm {xs ys : List Int} (h : xs.Perm ys) : prodL xs = prodL ys := by
  induction h with
  | nil => rfl
  | cons x _ ih => simp only [prodL, ih]
  | swap x y l => simp only [prodL]; rw [← Int.mul_assoc, ← Int.mul_assoc, Int.mul_comm x y]
  | trans _ _ h1 h2 => rw [h1, h2]
theorem range_getD (ms : List Int) : (List.range ms.length).map (fun i => ms.getD i 0) = ms := by
  refine List.ext_getElem (by rw [List.length_map, List.length_range]) fun i h1 h2 => ?_
  rw [List.getElem_map, List.getElem_range, List.getD_eq_getElem?_getD, List.getElem?_eq_getElem h2]
  rfl
theorem szO_prod {ms : List Int} {os : List (Int × Int)} (h : (os.map fun o => o.1).Perm ((List.range ms.length).map fun (i : Nat) => (i : Int))) : prodL (szO ms os) = prodL ms := by
  have e1 : szO ms os = (os.map fun o => o.1).map fun i => ms.getD i.toNat 0 := by unfold szO; rw [List.map_map]; rfl
  rw [e1, prodL_perm (h.map _), List.map_map]
  have e2 : ((fun i : Int => ms.getD i.toNat 0) ∘ fun (i : Nat) => (i : Int)) = fun i => ms.getD i 0 := rfl
  rw [e2, range_getD]
theorem ord_loops {H : Hp} {r : Addr} {os : List (Int × Int)} {n : Nat} (h : OrdOk os n) (t : TupsAt H r (os.map fun o => [o.1, o.2])) : LoopsAt n H r os := by
  refine ⟨t, h.1, fun o ho => ⟨?_, h.2.2 o ho⟩⟩
  have := h.2.1.mem_iff.mp (List.mem_map.mpr ⟨o, ho, rfl⟩)
  obtain ⟨i, hi, e⟩ := List.mem_map.mp this
  have := List.mem_range.mp hi
  omega
theorem ord_nodup {os : List (Int × Int)} {n : Nat} (h : OrdOk os n) : (os.map fun o => o.1).Nodup := by
  refine h.2.1.nodup_iff.mpr ?_
  exact List.pairwise_map.mpr (List.Pairwise.imp (fun h e => h (Int.ofNat.inj e)) List.nodup_range)
theorem pair_inj : ∀ {os os' : List (Int × Int)} {us : List V} {H : Hp}, Al (TupV H) (os.map fun o => [o.1, o.2]) us → Al (TupV H) (os'.map fun o => [o.1, o.2]) us → os = os' := by
  intro os os' us H h h'
  have l1 := h.1
  have l2 := h'.1
  rw [List.length_map] at l1 l2
  refine List.ext_getElem (by omega) fun i h1 h2 => ?_
  have hu : i < us.length := by omega
  obtain ⟨w, e, hw⟩ := h.2 i [os[i].1, os[i].2] us[i] (by rw [List.getElem?_map, List.getElem?_eq_getElem h1]; rfl) (List.getElem?_eq_getElem hu)
  obtain ⟨w', e', hw'⟩ := h'.2 i [os'[i].1, os'[i].2] us[i] (by rw [List.getElem?_map, List.getElem?_eq_getElem h2]; rfl) (List.getElem?_eq_getElem hu)
  rw [e] at e'
  cases e'
  rw [hw] at hw'
  have := Option.some.inj hw'
  simp only [HO.tup.injEq, List.map_cons, List.map_nil, List.cons.injEq, V.int.injEq, and_true] at this
  exact Prod.ext this.1 this.2
theorem not_bad {n : Nat} {H : Hp} {q : Addr} {os : List (Int × Int)} (h : LoopsAt n H q os) (hn : (os.map fun o => o.1).Nodup) : ¬ BadOrd n H (.ref q) := by
  obtain ⟨us, hu, al⟩ := h.1
  have ha := h.all hu
  rintro (⟨_, b⟩ | ⟨q', xs, e, hq, _, hc⟩)
  · exact b q _ rfl hu rfl
  · cases e
    rw [hu] at hq
    cases hq
    rcases hc with h1 | ⟨_, h1⟩ | ⟨os', h1, h2⟩
    · exact h1 ha.1
    · rw [List.all_eq_true.mpr fun y hy => (ha.2 y hy).2] at h1
      cases h1
    · obtain ⟨us', hu', al'⟩ := h1.1
      rw [hu] at hu'
      cases hu'
      rw [← pair_inj al al'] at h2
      exact h2 hn
theorem great_prod {ms : List Int} {k : Nat} {g : Int} (hs : ∀ m ∈ ms, 1 ≤ m ∧ m ≤ 1000000000) (hg : 4097 ≤ g ∧ g ≤ 1000000000) (hk : k < ms.length) (h8 : ms.length ≤ 8) : Sizes (ms.take k ++ [g] ++ ms.drop (k + 1)) ∧ (ms.take k ++ [g] ++ ms.drop (k + 1)).length = ms.length ∧ 4096 < prodL (ms.take k ++ [g] ++ ms.drop (k + 1)) := by
  have hl : (ms.take k ++ [g] ++ ms.drop (k + 1)).length = ms.length := by simp; omega
  refine ⟨⟨by omega, fun n hn => ?_⟩, hl, ?_⟩
  · rcases List.mem_append.mp hn with h | h
    · rcases List.mem_append.mp h with h | h
      · exact hs n (List.mem_of_mem_take h)
      · rw [List.mem_singleton.mp h]; omega
    · exact hs n (List.mem_of_mem_drop h)
  · rw [prodL_append, prodL_append, show prodL [g] = g by simp [prodL]]
    have a := (prodL_pos (ms.take k) fun n hn => hs n (List.mem_of_mem_take hn)).1
    have b := (prodL_pos (ms.drop (k + 1)) fun n hn => hs n (List.mem_of_mem_drop hn)).1
    generalize prodL (ms.take k) = x at a ⊢
    generalize prodL (ms.drop (k + 1)) = y at b ⊢
    have h1 := Int.mul_le_mul a hg.1 (by omega) (by omega)
    have h2 := Int.mul_le_mul h1 b (by omega) (by omega)
    omega
def spLaw (K : PySem.W.Frag) : Sp := fun vs H Q E => ∃ (a : Addr), vs = [.ref a] ∧ (∃ ns : List Int, SqL K H a (ns.map V.int) ∧ ns.length ≤ 63 ∧ ∀ H', Q (.bl true) H')
theorem c_spLaw (K : PySem.W.Frag) (a : Addr) (H : Hp) (Q : VK) (E : XK) : spLaw K [.ref a] H Q E = (∃ ns : List Int, SqL K H a (ns.map V.int) ∧ ns.length ≤ 63 ∧ ∀ H', Q (.bl true) H') := spx1 (f := fun (a : Addr) => [.ref a]) (fun _ _ h => by cases h; exact rfl) a
theorem l_spLaw (K : PySem.W.Frag) {vs : List V} {H : Hp} {Q : VK} {E : XK} (h : spLaw K vs H Q E) : vs.length = 1 := spl1 h fun _ => rfl
theorem ok_law (T : Tx K mg t) : FnOk P w K mg base CX0 9 t.a_law t.d_law ["_law_script"] (spLaw K) := by
  refine T.F_law.ok c_law (fun vs H Q E h => l_spLaw _ h) (fun cdv A outer s H vs Q E hr h => ?_)
  · obtain ⟨a, rfl, ns, hS, hl, kk⟩ := h
    have G__law_draw := ok__law_draw (P := P) (w := w) (base := base) T a ns
    have G__law_some_sizes := ok__law_some_sizes (P := P) (w := w) (base := base) T a ns
    have G__law_order := ok__law_order (P := P) (w := w) (base := base) T a ns
    have G__law_walk := ok__law_walk (P := P) (w := w) (base := base) T
    have G__law_asked := ok__law_asked (P := P) (w := w) (base := base) T
    have G__law_right := ok__law_right (P := P) (w := w) (base := base) T
    have G__law_spoilt := ok__law_spoilt (P := P) (w := w) (base := base) T
    have G__law_many := ok__law_many (P := P) (w := w) (base := base) T
    have so1 : PyData.strOk (Str.ofString "order") = true := by decide +kernel
    have so2 : PyData.strOk (Str.ofString "many") = true := by decide +kernel
    refine ⟨_, (@pss_cons _ _ _ _ _ (@ps_set _ _ (1) _ _ _ _ c_law.nd rfl (Or.inl rfl) (@pe_call _ _ _ _ _ _ _ _ _ _ _ _ _ _ _ _ G__law_some_sizes (hr.mono (by decide)) (by rfl) T.m__law_some_sizes T.F__law_some_sizes.kp T.b__law_some_sizes .nil pass0 (@pa_c _ _ _ _ _ (@pvN _ 0 _ _ (by rfl) (by first | exact Or.inl rfl | exact Or.inr (Or.inl rfl) | exact Or.inr (Or.inr rfl)) (by decide) (by decide)) (@pa_nil _) (by rfl)) (by decide) (by rfl) (by rfl)) (by rfl) (by first | exact .inl rfl | exact .inr rfl | assumption)) (@pss_cons _ _ _ _ _ (@ps_set _ _ (2) _ _ _ _ c_law.nd rfl (Or.inl rfl) (@pe_call _ _ _ _ _ _ _ _ _ _ _ _ _ _ _ _ G__law_order (hr.mono (by decide)) (by rfl) T.m__law_order T.F__law_order.kp T.b__law_order .nil pass0 (@pa_c _ _ _ _ _ (@pvN _ 0 _ _ (by rfl) (by first | exact Or.inl rfl | exact Or.inr (Or.inl rfl) | exact Or.inr (Or.inr rfl)) (by decide) (by decide)) (@pa_c _ _ _ _ _ (@pe_int _ _ _ _) (@pa_c _ _ _ _ _ (@pe_callB _ _ _ _ _ _ _ ("len") _ call_qLen (by rfl) T.z_len (by decide +kernel) (@pa_c _ _ _ _ _ (@pvN _ 1 _ _ (by rfl) (by first | exact Or.inl rfl | exact Or.inr (Or.inl rfl) | exact Or.inr (Or.inr rfl)) (by decide) (by decide)) (@pa_nil _) (by rfl)) (by decide) (by decide) (by rfl) (by rfl)) (@pa_nil _) (by rfl)) (by rfl)) (by rfl)) (by decide) (by rfl) (by rfl)) (by rfl) (by first | exact .inl rfl | exact .inr rfl | assumption)) (@pss_cons _ _ _ _ _ (@ps_set _ _ (3) _ _ _ _ c_law.nd rfl (Or.inl rfl) (@pe_call _ _ _ _ _ _ _ _ _ _ _ _ _ _ _ _ G__law_walk (hr.mono (by decide)) (by rfl) T.m__law_walk T.F__law_walk.kp T.b__law_walk .nil pass0 (@pa_c _ _ _ _ _ (@pvN _ 1 _ _ (by rfl) (by first | exact Or.inl rfl | exact Or.inr (Or.inl rfl) | exact Or.inr (Or.inr rfl)) (by decide) (by decide)) (@pa_c _ _ _ _ _ (@pvN _ 2 _ _ (by rfl) (by first | exact Or.inl rfl | exact Or.inr (Or.inl rfl) | exact Or.inr (Or.inr rfl)) (by decide) (by decide)) (@pa_nil _) (by rfl)) (by rfl)) (by decide) (by rfl) (by rfl)) (by rfl) (by first | exact .inl rfl | exact .inr rfl | assumption)) (@pss_cons _ _ _ _ _ (@ps_set _ _ (4) _ _ _ _ c_law.nd rfl (Or.inl rfl) (@pe_callTy _ _ _ _ _ _ _ _ _ call_nList (by rfl) T.z_list (by decide +kernel) (@pa_c _ _ _ _ _ (@pvN _ 2 _ _ (by rfl) (by first | exact Or.inl rfl | exact Or.inr (Or.inl rfl) | exact Or.inr (Or.inr rfl)) (by decide) (by decide)) (@pa_nil _) (by rfl)) (by decide) (by decide) (by rfl) (by rfl)) (by rfl) (by first | exact .inl rfl | exact .inr rfl | assumption)) (@pss_cons _ _ _ _ _ (@ps_set _ _ (5) _ _ _ _ c_law.nd rfl (Or.inl rfl) (@pe_call _ _ _ _ _ _ _ _ _ _ _ _ _ _ _ _ G__law_asked (hr.mono (by decide)) (by rfl) T.m__law_asked T.F__law_asked.kp T.b__law_asked .nil pass0 (@pa_c _ _ _ _ _ (@pe_callTy _ _ _ _ _ _ _ _ _ call_nList (by rfl) T.z_list (by decide +kernel) (@pa_c _ _ _ _ _ (@pvN _ 1 _ _ (by rfl) (by first | exact Or.inl rfl | exact Or.inr (Or.inl rfl) | exact Or.inr (Or.inr rfl)) (by decide) (by decide)) (@pa_nil _) (by rfl)) (by decide) (by decide) (by rfl) (by rfl)) (@pa_c _ _ _ _ _ (@pvN _ 4 _ _ (by rfl) (by first | exact Or.inl rfl | exact Or.inr (Or.inl rfl) | exact Or.inr (Or.inr rfl)) (by decide) (by decide)) (@pa_nil _) (by rfl)) (by rfl)) (by decide) (by rfl) (by rfl)) (by rfl) (by first | exact .inl rfl | exact .inr rfl | assumption)) (@pss_cons _ _ _ _ _ (@ps_if _ _ _ _ _ _ _ _ (PW.pt (@pw_or _ _ _ _ _ _ _ (@pt_not _ _ _ _ (@pt_valN _ _ _ (@pe_call _ _ _ _ _ _ _ _ _ _ _ _ _ _ _ _ G__law_right (hr.mono (by decide)) (by rfl) T.m__law_right T.F__law_right.kp T.b__law_right .nil pass0 (@pa_c _ _ _ _ _ (@pvN _ 5 _ _ (by rfl) (by first | exact Or.inl rfl | exact Or.inr (Or.inl rfl) | exact Or.inr (Or.inr rfl)) (by decide) (by decide)) (@pa_c _ _ _ _ _ (@pvN _ 3 _ _ (by rfl) (by first | exact Or.inl rfl | exact Or.inr (Or.inl rfl) | exact Or.inr (Or.inr rfl)) (by decide) (by decide)) (@pa_nil _) (by rfl)) (by rfl)) (by decide) (by rfl) (by rfl)) (by intros; rfl))) (@pw_or1 _ _ _ _ (@pt_cmpRN _ _ _ _ _ _ _ _ (op_qNe hr.units) (@pvN _ 4 _ _ (by rfl) (by first | exact Or.inl rfl | exact Or.inr (Or.inl rfl) | exact Or.inr (Or.inr rfl)) (by decide) (by decide)) (@pvN _ 2 _ _ (by rfl) (by first | exact Or.inl rfl | exact Or.inr (Or.inl rfl) | exact Or.inr (Or.inr rfl)) (by decide) (by decide)) (nomark _))))) (@pss_one _ _ _ (@ps_ret _ _ _ _ (@pe_bl _ _ _ _))) (@pss_nil _)) (@pss_cons _ _ _ _ _ (@ps_expr _ _ _ _ (@pe_bm _ _ _ _ _ _ _ _ _ _ _ _ PySem.F.plainAttrs_list PySem.F.slot_list_append PySem.F.type_list_append mt_append (@pe_ix _ _ _ _ _ _ _ ix_q (@pvN _ 5 _ _ (by rfl) (by first | exact Or.inl rfl | exact Or.inr (Or.inl rfl) | exact Or.inr (Or.inr rfl)) (by decide) (by decide)) (@pe_int _ _ _ _) (fun _ _ => rfl)) (@pa_c _ _ _ _ _ (@pe_qTup _ _ _ _ _ (@pa_nil _)) (@pa_nil _) (by rfl)) (by rfl) (by rfl) (by rfl) (by rfl) (by rfl)) (by rfl)) (@pss_cons _ _ _ _ _ (@ps_for _ _ _ _ _ _ _ _ PassesOwn.never rfl (@pi_range1 _ _ _ _ _ _ (by rfl) T.z_range (@pa_c _ _ _ _ _ (@pe_int _ _ _ _) (@pa_nil _) (by rfl)) (by rfl)) (@pg_name _ _ (6) _ c_law.nd rfl (Or.inl rfl) (by first | exact .inl rfl | exact .inr rfl | assumption)) (@pss_one _ _ _ (@ps_if _ _ _ _ _ _ _ _ (@pt_cmpRN _ _ _ _ _ _ _ _ (op_qNe hr.units) (@pe_ix _ _ _ _ _ _ _ ix_q (@pe_call _ _ _ _ _ _ _ _ _ _ _ _ _ _ _ _ G__law_asked (hr.mono (by decide)) (by rfl) T.m__law_asked T.F__law_asked.kp T.b__law_asked .nil pass0 (@pa_c _ _ _ _ _ (@pe_callTy _ _ _ _ _ _ _ _ _ call_nList (by rfl) T.z_list (by decide +kernel) (@pa_c _ _ _ _ _ (@pvN _ 1 _ _ (by rfl) (by first | exact Or.inl rfl | exact Or.inr (Or.inl rfl) | exact Or.inr (Or.inr rfl)) (by decide) (by decide)) (@pa_nil _) (by rfl)) (by decide) (by decide) (by rfl) (by rfl)) (@pa_c _ _ _ _ _ (@pe_call _ _ _ _ _ _ _ _ _ _ _ _ _ _ _ _ G__law_spoilt (hr.mono (by decide)) (by rfl) T.m__law_spoilt T.F__law_spoilt.kp T.b__law_spoilt .nil pass0 (@pa_c _ _ _ _ _ (@pe_callTy _ _ _ _ _ _ _ _ _ call_nList (by rfl) T.z_list (by decide +kernel) (@pa_c _ _ _ _ _ (@pvN _ 2 _ _ (by rfl) (by first | exact Or.inl rfl | exact Or.inr (Or.inl rfl) | exact Or.inr (Or.inr rfl)) (by decide) (by decide)) (@pa_nil _) (by rfl)) (by decide) (by decide) (by rfl) (by rfl)) (@pa_c _ _ _ _ _ (@pe_call _ _ _ _ _ _ _ _ _ _ _ _ _ _ _ _ G__law_draw (hr.mono (by decide)) (by rfl) T.m__law_draw T.F__law_draw.kp T.b__law_draw .nil pass0 (@pa_c _ _ _ _ _ (@pvN _ 0 _ _ (by rfl) (by first | exact Or.inl rfl | exact Or.inr (Or.inl rfl) | exact Or.inr (Or.inr rfl)) (by decide) (by decide)) (@pa_c _ _ _ _ _ (@pe_op _ _ _ _ _ _ _ _ on_add (@pe_int _ _ _ _) (@pvN _ 6 _ _ (by rfl) (by first | exact Or.inl rfl | exact Or.inr (Or.inl rfl) | exact Or.inr (Or.inr rfl)) (by decide) (by decide))) (@pa_c _ _ _ _ _ (@pe_op _ _ _ _ _ _ _ _ on_pow (@pe_int _ _ _ _) (@pe_int _ _ _ _)) (@pa_nil _) (by rfl)) (by rfl)) (by rfl)) (by decide) (by rfl) (by rfl)) (@pa_nil _) (by rfl)) (by rfl)) (by decide) (by rfl) (by rfl)) (@pa_nil _) (by rfl)) (by rfl)) (by decide) (by rfl) (by rfl)) (@pe_int _ _ _ _) (fun _ _ => rfl)) (@pe_str _ _ _ _) (nomark _)) (@pss_one _ _ _ (@ps_ret _ _ _ _ (@pe_bl _ _ _ _))) (@pss_nil _))) (by intros; rfl)) (@pss_cons _ _ _ _ _ (@ps_if _ _ _ _ _ _ _ _ (@pt_cmpRN _ _ _ _ _ _ _ _ on_gt (@pe_callB _ _ _ _ _ _ _ ("len") _ call_qLen (by rfl) T.z_len (by decide +kernel) (@pa_c _ _ _ _ _ (@pvN _ 1 _ _ (by rfl) (by first | exact Or.inl rfl | exact Or.inr (Or.inl rfl) | exact Or.inr (Or.inr rfl)) (by decide) (by decide)) (@pa_nil _) (by rfl)) (by decide) (by decide) (by rfl) (by rfl)) (@pe_int _ _ _ _) (nomark _)) (@pss_cons _ _ _ _ _ (@ps_set _ _ (6) _ _ _ _ c_law.nd rfl (Or.inl rfl) (@pe_call _ _ _ _ _ _ _ _ _ _ _ _ _ _ _ _ G__law_draw (hr.mono (by decide)) (by rfl) T.m__law_draw T.F__law_draw.kp T.b__law_draw .nil pass0 (@pa_c _ _ _ _ _ (@pvN _ 0 _ _ (by rfl) (by first | exact Or.inl rfl | exact Or.inr (Or.inl rfl) | exact Or.inr (Or.inr rfl)) (by decide) (by decide)) (@pa_c _ _ _ _ _ (@pe_int _ _ _ _) (@pa_c _ _ _ _ _ (@pe_callB _ _ _ _ _ _ _ ("len") _ call_qLen (by rfl) T.z_len (by decide +kernel) (@pa_c _ _ _ _ _ (@pvN _ 1 _ _ (by rfl) (by first | exact Or.inl rfl | exact Or.inr (Or.inl rfl) | exact Or.inr (Or.inr rfl)) (by decide) (by decide)) (@pa_nil _) (by rfl)) (by decide) (by decide) (by rfl) (by rfl)) (@pa_nil _) (by rfl)) (by rfl)) (by rfl)) (by decide) (by rfl) (by rfl)) (by rfl) (by first | exact .inl rfl | exact .inr rfl | assumption)) (@pss_cons _ _ _ _ _ (@ps_set _ _ (7) _ _ _ _ c_law.nd rfl (Or.inl rfl) (@pe_op _ _ _ _ _ _ _ _ op_nCat (@pe_op _ _ _ _ _ _ _ _ op_nCat (@pe_slice _ _ _ _ _ _ _ _ _ _ sl_n (@pvN _ 1 _ _ (by rfl) (by first | exact Or.inl rfl | exact Or.inr (Or.inl rfl) | exact Or.inr (Or.inr rfl)) (by decide) (by decide)) (@po_none _) (@po_some _ _ _ (@pvN _ 6 _ _ (by rfl) (by first | exact Or.inl rfl | exact Or.inr (Or.inl rfl) | exact Or.inr (Or.inr rfl)) (by decide) (by decide)))) (@pe_qLst _ _ _ _ (@pa_c _ _ _ _ _ (@pe_op _ _ _ _ _ _ _ _ on_add (@pe_int _ _ _ _) (@pe_call _ _ _ _ _ _ _ _ _ _ _ _ _ _ _ _ G__law_draw (hr.mono (by decide)) (by rfl) T.m__law_draw T.F__law_draw.kp T.b__law_draw .nil pass0 (@pa_c _ _ _ _ _ (@pvN _ 0 _ _ (by rfl) (by first | exact Or.inl rfl | exact Or.inr (Or.inl rfl) | exact Or.inr (Or.inr rfl)) (by decide) (by decide)) (@pa_c _ _ _ _ _ (@pe_int _ _ _ _) (@pa_c _ _ _ _ _ (@pe_ix _ _ _ _ _ _ _ ix_q (@pe_qLst _ _ _ _ (@pa_c _ _ _ _ _ (@pe_int _ _ _ _) (@pa_c _ _ _ _ _ (@pe_op _ _ _ _ _ _ _ _ on_sub (@pe_op _ _ _ _ _ _ _ _ on_pow (@pe_int _ _ _ _) (@pe_int _ _ _ _)) (@pe_int _ _ _ _)) (@pa_nil _) (by rfl)) (by rfl))) (@pe_op _ _ _ _ _ _ _ _ on_mod (@pvN _ 6 _ _ (by rfl) (by first | exact Or.inl rfl | exact Or.inr (Or.inl rfl) | exact Or.inr (Or.inr rfl)) (by decide) (by decide)) (@pe_int _ _ _ _)) (fun _ _ => rfl)) (@pa_nil _) (by rfl)) (by rfl)) (by rfl)) (by decide) (by rfl) (by rfl))) (@pa_nil _) (by rfl)))) (@pe_slice _ _ _ _ _ _ _ _ _ _ sl_n (@pvN _ 1 _ _ (by rfl) (by first | exact Or.inl rfl | exact Or.inr (Or.inl rfl) | exact Or.inr (Or.inr rfl)) (by decide) (by decide)) (@po_some _ _ _ (@pe_op _ _ _ _ _ _ _ _ on_add (@pvN _ 6 _ _ (by rfl) (by first | exact Or.inl rfl | exact Or.inr (Or.inl rfl) | exact Or.inr (Or.inr rfl)) (by decide) (by decide)) (@pe_int _ _ _ _))) (@po_none _))) (by rfl) (by first | exact .inl rfl | exact .inr rfl | assumption)) (@pss_cons _ _ _ _ _ (@ps_if _ _ _ _ _ _ _ _ (@pt_cmpRN _ _ _ _ _ _ _ _ (op_qNe hr.units) (@pe_call _ _ _ _ _ _ _ _ _ _ _ _ _ _ _ _ G__law_asked (hr.mono (by decide)) (by rfl) T.m__law_asked T.F__law_asked.kp T.b__law_asked .nil pass0 (@pa_c _ _ _ _ _ (@pe_callTy _ _ _ _ _ _ _ _ _ call_nList (by rfl) T.z_list (by decide +kernel) (@pa_c _ _ _ _ _ (@pvN _ 7 _ _ (by rfl) (by first | exact Or.inl rfl | exact Or.inr (Or.inl rfl) | exact Or.inr (Or.inr rfl)) (by decide) (by decide)) (@pa_nil _) (by rfl)) (by decide) (by decide) (by rfl) (by rfl)) (@pa_c _ _ _ _ _ (@pvN _ 4 _ _ (by rfl) (by first | exact Or.inl rfl | exact Or.inr (Or.inl rfl) | exact Or.inr (Or.inr rfl)) (by decide) (by decide)) (@pa_nil _) (by rfl)) (by rfl)) (by decide) (by rfl) (by rfl)) (@pe_qTup _ _ _ _ _ (@pa_c _ _ _ _ _ (@pe_str _ _ _ _) (@pa_c _ _ _ _ _ (@pe_call _ _ _ _ _ _ _ _ _ _ _ _ _ _ _ _ G__law_many (hr.mono (by decide)) (by rfl) T.m__law_many T.F__law_many.kp T.b__law_many .nil pass0 (@pa_c _ _ _ _ _ (@pvN _ 7 _ _ (by rfl) (by first | exact Or.inl rfl | exact Or.inr (Or.inl rfl) | exact Or.inr (Or.inr rfl)) (by decide) (by decide)) (@pa_nil _) (by rfl)) (by decide) (by rfl) (by rfl)) (@pa_nil _) (by rfl)) (by rfl))) (nomark _)) (@pss_one _ _ _ (@ps_ret _ _ _ _ (@pe_bl _ _ _ _))) (@pss_nil _)) (@pss_one _ _ _ (@ps_if _ _ _ _ _ _ _ _ (@pt_cmpRN _ _ _ _ _ _ _ _ (op_qNe hr.units) (@pe_ix _ _ _ _ _ _ _ ix_q (@pe_call _ _ _ _ _ _ _ _ _ _ _ _ _ _ _ _ G__law_asked (hr.mono (by decide)) (by rfl) T.m__law_asked T.F__law_asked.kp T.b__law_asked .nil pass0 (@pa_c _ _ _ _ _ (@pe_callTy _ _ _ _ _ _ _ _ _ call_nList (by rfl) T.z_list (by decide +kernel) (@pa_c _ _ _ _ _ (@pvN _ 7 _ _ (by rfl) (by first | exact Or.inl rfl | exact Or.inr (Or.inl rfl) | exact Or.inr (Or.inr rfl)) (by decide) (by decide)) (@pa_nil _) (by rfl)) (by decide) (by decide) (by rfl) (by rfl)) (@pa_c _ _ _ _ _ (@pe_call _ _ _ _ _ _ _ _ _ _ _ _ _ _ _ _ G__law_spoilt (hr.mono (by decide)) (by rfl) T.m__law_spoilt T.F__law_spoilt.kp T.b__law_spoilt .nil pass0 (@pa_c _ _ _ _ _ (@pe_callTy _ _ _ _ _ _ _ _ _ call_nList (by rfl) T.z_list (by decide +kernel) (@pa_c _ _ _ _ _ (@pvN _ 2 _ _ (by rfl) (by first | exact Or.inl rfl | exact Or.inr (Or.inl rfl) | exact Or.inr (Or.inr rfl)) (by decide) (by decide)) (@pa_nil _) (by rfl)) (by decide) (by decide) (by rfl) (by rfl)) (@pa_c _ _ _ _ _ (@pe_call _ _ _ _ _ _ _ _ _ _ _ _ _ _ _ _ G__law_draw (hr.mono (by decide)) (by rfl) T.m__law_draw T.F__law_draw.kp T.b__law_draw .nil pass0 (@pa_c _ _ _ _ _ (@pvN _ 0 _ _ (by rfl) (by first | exact Or.inl rfl | exact Or.inr (Or.inl rfl) | exact Or.inr (Or.inr rfl)) (by decide) (by decide)) (@pa_c _ _ _ _ _ (@pe_int _ _ _ _) (@pa_c _ _ _ _ _ (@pe_op _ _ _ _ _ _ _ _ on_pow (@pe_int _ _ _ _) (@pe_int _ _ _ _)) (@pa_nil _) (by rfl)) (by rfl)) (by rfl)) (by decide) (by rfl) (by rfl)) (@pa_nil _) (by rfl)) (by rfl)) (by decide) (by rfl) (by rfl)) (@pa_nil _) (by rfl)) (by rfl)) (by decide) (by rfl) (by rfl)) (@pe_int _ _ _ _) (fun _ _ => rfl)) (@pe_str _ _ _ _) (nomark _)) (@pss_one _ _ _ (@ps_ret _ _ _ _ (@pe_bl _ _ _ _))) (@pss_nil _)))))) (@pss_nil _)) (@pss_one _ _ _ (@ps_ret _ _ _ _ (@pe_orN _ _ _ _ _ _ _ (@pe_cmpR _ _ _ _ _ _ _ _ on_gt (@pe_callB _ _ _ _ _ _ _ ("len") _ call_qLen (by rfl) T.z_len (by decide +kernel) (@pa_c _ _ _ _ _ (@pvN _ 3 _ _ (by rfl) (by first | exact Or.inl rfl | exact Or.inr (Or.inl rfl) | exact Or.inr (Or.inr rfl)) (by decide) (by decide)) (@pa_nil _) (by rfl)) (by decide) (by decide) (by rfl) (by rfl)) (@pe_int _ _ _ _) (nomark _)) (@pe_one _ _ _ _ _ (@pe_call _ _ _ _ _ _ _ _ _ _ _ _ _ _ _ _ G__law_right (hr.mono (by decide)) (by rfl) T.m__law_right T.F__law_right.kp T.b__law_right .nil pass0 (@pa_c _ _ _ _ _ (@pe_call _ _ _ _ _ _ _ _ _ _ _ _ _ _ _ _ G__law_asked (hr.mono (by decide)) (by rfl) T.m__law_asked T.F__law_asked.kp T.b__law_asked .nil pass0 (@pa_c _ _ _ _ _ (@pe_callTy _ _ _ _ _ _ _ _ _ call_nList (by rfl) T.z_list (by decide +kernel) (@pa_c _ _ _ _ _ (@pvN _ 1 _ _ (by rfl) (by first | exact Or.inl rfl | exact Or.inr (Or.inl rfl) | exact Or.inr (Or.inr rfl)) (by decide) (by decide)) (@pa_nil _) (by rfl)) (by decide) (by decide) (by rfl) (by rfl)) (@pa_c _ _ _ _ _ (@pvN _ 2 _ _ (by rfl) (by first | exact Or.inl rfl | exact Or.inr (Or.inl rfl) | exact Or.inr (Or.inr rfl)) (by decide) (by decide)) (@pa_nil _) (by rfl)) (by rfl)) (by decide) (by rfl) (by rfl)) (@pa_c _ _ _ _ _ (@pvN _ 3 _ _ (by rfl) (by first | exact Or.inl rfl | exact Or.inr (Or.inl rfl) | exact Or.inr (Or.inr rfl)) (by decide) (by decide)) (@pa_nil _) (by rfl)) (by rfl)) (by decide) (by rfl) (by rfl))))))))))))))), ?_⟩
    rw [show start ["_law_script", "_law_sizes", "_law_order_here", "_law_due", "_law_handed", "_law_found", "_law_k", "_law_great"] [.ref a] = [some (.ref a), none, none, none, none, none, none, none] from rfl]
    clear G__law_draw G__law_some_sizes G__law_order G__law_walk G__law_asked G__law_right G__law_spoilt G__law_many
    replace kk := fun (_ : Unit) => kk
    simp_all (failIfUnchanged := false) only [and_true]
    rw [c_spSome]
    refine ⟨rfl, hS, hl, fun ms r1 H1 e1 h1 hz => ?_⟩
    have hS1 := e1.2 K a _ hS
    obtain ⟨hm8, hmb, hmp⟩ := hz
    have hs : Sizes ms := ⟨hm8, fun m hm => ⟨(hmb m hm).1, by have := (hmb m hm).2; omega⟩⟩
    clear hmb
    simp_all (failIfUnchanged := false) only [and_true]
    rw [c_spOrder]
    refine ⟨rfl, hS1, hl, by decide, by decide, by omega, by omega, fun os r2 H2 hr2 e2 t2 ho => ?_⟩
    rw [Int.toNat_natCast] at ho
    have lp2 := ord_loops ho t2
    have hnd := ord_nodup ho
    have hpr := szO_prod ho.2.1
    have h1_2 := e2.at h1
    have hS2 := e2.2 K a _ hS1
    have hob : ∀ o ∈ os, 0 ≤ o.1 ∧ o.1 < (ms.length : Int) := fun o ho => (lp2.2.2 o ho).1
    clear h1 hS1 hS
    simp_all (failIfUnchanged := false) only [and_true]
    rw [c_spWalk]
    refine ⟨ms, os, h1_2, hs, lp2, by omega, fun r3 H3 e3 t3 => ?_⟩
    have hzl : (walkM ms os).length ≤ 4096 := by rw [walkM_len hs.2 hob, rowsL_len]; omega
    have hz8 : ∀ z ∈ walkM ms os, z.length ≤ 8 := fun z hz => by rw [walkM_row hz]; exact hm8
    generalize hzs : walkM ms os = zs at t3 hzl hz8
    obtain ⟨us, hu2, al2⟩ := t2
    have hul : us.length = os.length := by rw [al2.1, List.length_map]
    have hu3 := e3.at hu2
    have h1_3 := e3.at h1_2
    have hS3 := e3.2 K a _ hS2
    clear hr2
    simp_all (failIfUnchanged := false) only [and_true]
    intro r4 H4 hr4 e4 h4
    have h1_4 := e4.at h1_3
    clear h1_2 h1_3 hu3
    simp_all (failIfUnchanged := false) only [and_true]
    intro r5 H5 hr5 e5 h5
    have e25 := e3.trans (e4.trans e5)
    have e35 := e4.trans e5
    have hu5 := e25.at hu2
    have h1_5 := e5.at h1_4
    have h4_5 := e5.at h4
    have hS5 := e25.2 K a _ hS2
    have t3_5 := t3.ext e35
    have al5 := al2.imp fun _ _ z => TupV.ext z e25
    have lp5 : LoopsAt ms.length H5 r4 os := ⟨⟨us, h4_5, al5⟩, lp2.2⟩
    have lq5 : LoopsAt ms.length H5 r2 os := ⟨⟨us, hu5, al5⟩, lp2.2⟩
    clear hu2 h1_4 h4 hS2 hS3 t3 al2 lp2 hr4 hr5 e1 e2 e3 e4 e5 e25 e35
    simp_all (failIfUnchanged := false) only [and_true]
    rw [c_spAsked]
    refine ⟨ms, h5, hs, fun hB => absurd hB (not_bad lp5 hnd), fun _ => ⟨r4, os, rfl, lp5, fun _ r6 l6 H6 hl6 e6 h6 t6 => ?_, fun h => by omega⟩⟩
    rw [hzs] at t6
    simp_all (failIfUnchanged := false) only [and_true]
    rw [c_spRight]
    refine ⟨l6, zs, h6, t6, t3_5.ext e6, hzl, hz8, fun H7 e7 => ?_⟩
    obtain ⟨vs, hv6, al6⟩ := t6
    have hv7 := e7.at hv6
    have h6_7 := e7.at h6
    have e57 := e6.trans e7
    have hu7 := e57.at hu5
    have h4_7 := e57.at h4_5
    have al7 := al5.imp fun _ _ z => TupV.ext z e57
    have d1 := tups_all (H := H7) (f := datF H7 (datF H7 (datF H7 noD))) al7
    have d3 := tups_eqv (os.map fun o => [o.1, o.2])
    have hvl : vs.length < sizeLine := lt5000 (by rw [al6.1]; omega)
    clear hv6 h6
    simp_all (failIfUnchanged := false) only [and_true]
    intro r8 H8 hr8 e8 h8
    have hv8 := e8.at hv7
    have e9 : Ext H5 (upd H8 l6 (.lst (vs ++ [.ref r8]))) := (e57.trans e8).put hl6
    clear hv7 h6_7 hu7 h4_7 al7 d1 d3 hr8 h8 e57 e8 e7 e6 hl6 h5
    simp_all (failIfUnchanged := false) only [and_true]
    generalize upd H8 l6 (.lst (vs ++ [.ref r8])) = H9 at e9 ⊢
    clear hv8 hvl al6
    try simp_all (failIfUnchanged := false) only [and_true]
    refine for_rng (fun i σ H' => ∃ v6 v7 : Option V, σ = [some (.ref a), some (.ref r1), some (.ref r2), some (.ref r3), some (.ref r4), some (.ref r6), v6, v7] ∧ Ext H5 H') ⟨none, none, rfl, e9⟩ ?_ ?_
    · rintro i _ H10 hi ⟨v6, v7, rfl, e10⟩
      have hi3 : i < 3 := by omega
      have h1_10 := e10.at h1_5
      have hu10 := e10.at hu5
      have hS10 := e10.2 K a _ hS5
      clear h1_5 hu5 hS5 h4_5 hi
      simp_all (failIfUnchanged := false) only [↓m_kBody]
      intro r11 H11 hr11 e11 h11
      have hu11 := e11.at hu10
      clear hr11
      simp_all (failIfUnchanged := false) only [and_true]
      intro r12 H12 hr12 e12 h12
      have hS12 := (e11.trans e12).2 K a _ hS10
      clear hr12
      simp_all (failIfUnchanged := false) only [and_true]
      rw [c_spDraw]
      refine ⟨hS12, hl, ⟨by omega, by omega⟩, by decide, fun z z0 z1 => ?_⟩
      simp_all (failIfUnchanged := false) only [and_true]
      rw [c_spSpoilt]
      refine ⟨ms.length, os, ⟨⟨us, h12, al5.imp fun _ _ z => TupV.ext z (e10.trans (e11.trans e12))⟩, lp5.2⟩, hm8, z0, by omega, fun v H13 e13 hb => ?_⟩
      simp_all (failIfUnchanged := false) only [and_true]
      rw [c_spAsked]
      refine ⟨ms, (e12.trans e13).at h11, hs, fun _ r14 H14 e14 h14 => ?_, fun hn => absurd hb hn⟩
      simp_all (failIfUnchanged := false) only [and_true]
      exact ⟨_, _, rfl, e10.trans (e11.trans (e12.trans (e13.trans e14)))⟩
    · rintro _ H10 ⟨v6, v7, rfl, e10⟩
      have h1_10 := e10.at h1_5
      clear e9
      simp_all (failIfUnchanged := false) only [-m_tIfS]
      refine if_gen (fun σ' H' => ∃ v6 v7 : Option V, σ' = [some (.ref a), some (.ref r1), some (.ref r2), some (.ref r3), some (.ref r4), some (.ref r6), v6, v7] ∧ Ext H5 H') (fun nx' hx => ?_) ?_
      · by_cases hm0 : ms.length = 0
        · have hx' := hx _ H10 ⟨v6, v7, rfl, e10⟩
          have hm0' : ¬ ((0 : Int) < (ms.length : Int)) := by omega
          clear hx hm0
          simp_all (failIfUnchanged := false) only [and_true]
        · have hm0' : (0 : Int) < (ms.length : Int) := by omega
          replace hx := fun (_ : Unit) => hx
          have hS10 := e10.2 K a _ hS5
          have hu10 := e10.at hu5
          have h4_10 := e10.at h4_5
          clear hm0 h1_5 hS5 hu5 h4_5
          simp_all (failIfUnchanged := false) only [and_true]
          rw [c_spDraw]
          refine ⟨hS10, hl, ⟨by decide, by decide⟩, hm0', fun z z0 z1 => ?_⟩
          obtain ⟨kn, rfl⟩ := Int.eq_ofNat_of_zero_le z0
          simp_all (failIfUnchanged := false) only [and_true]
          intro r11 H11 hr11 e11 h11
          rw [cut_none _ _ z0, Int.toNat_natCast] at h11
          clear hr11
          simp_all (failIfUnchanged := false) only [and_true]
          intro r12 H12 hr12 e12 h12
          replace h11 := e12.at h11
          clear hr12
          have i0 := Int.emod_nonneg (kn : Int) (show (2 : Int) ≠ 0 by decide)
          have i1 := Int.emod_lt_of_pos (kn : Int) (show (0 : Int) < 2 by decide)
          simp_all (failIfUnchanged := false) only [and_true]
          refine optK_ints (fun j => 2 ≤ j ∧ j ≤ 999995903) i0 i1 (fun v hv => ?_) fun j hj => ?_
          · simp only [List.mem_cons, List.not_mem_nil, or_false] at hv
            rcases hv with rfl | rfl
            · exact ⟨_, rfl, by decide⟩
            · exact ⟨_, rfl, by decide⟩
          have e02 := e10.trans (e11.trans e12)
          have hS12 := (e11.trans e12).2 K a _ hS10
          clear h12 i0 i1
          simp_all (failIfUnchanged := false) only [and_true]
          rw [c_spDraw]
          refine ⟨hS12, hl, ⟨by decide, by decide⟩, by omega, fun d d0 d1 => ?_⟩
          have hgb : 4097 ≤ 4097 + d ∧ 4097 + d ≤ 1000000000 := by omega
          simp_all (failIfUnchanged := false) only [and_true]
          intro r13 H13 hr13 e13 h13
          replace h11 := e13.at h11
          clear hr13
          refine use_cat h11 h13 (len5000 (by rw [List.length_take, List.length_map, List.length_singleton]; omega)) ?_
          intro r14 H14 hr14 e14 h14
          have h1_14 := (e11.trans (e12.trans (e13.trans e14))).at h1_10
          clear h11 h13 hr14
          simp_all (failIfUnchanged := false) only [and_true]
          intro r15 H15 hr15 e15 h15
          rw [cut_some _ _ (by omega), show ((kn : Int) + 1).toNat = kn + 1 by omega] at h15
          replace h14 := e15.at h14
          clear hr15 h1_14
          refine use_cat h14 h15 (len5000 (by rw [List.length_append, List.length_take, List.length_map, List.length_singleton, List.length_drop, List.length_map]; omega)) ?_
          intro r16 H16 hr16 e16 h16
          obtain ⟨hgS, hgl, hgp⟩ := great_prod (k := kn) hs.2 hgb (by omega) hm8
          replace h16 : H16 r16 = some (.lst ((ms.take kn ++ [4097 + d] ++ ms.drop (kn + 1)).map V.int)) := by
            rw [h16, List.map_append, List.map_append, List.map_take, List.map_drop]; rfl
          generalize ms.take kn ++ [4097 + d] ++ ms.drop (kn + 1) = gs at h16 hgS hgl hgp
          have hgq := szO_prod (ms := gs) (os := os) (by rw [hgl]; exact ho.2.1)
          have e06 := e02.trans (e13.trans (e14.trans (e15.trans e16)))
          have lp16 : LoopsAt gs.length H16 r4 os := by rw [hgl]; exact lp5.ext e06
          have e1016 := e11.trans (e12.trans (e13.trans (e14.trans (e15.trans e16))))
          have hu16 := e1016.at hu10
          have hS16 := e1016.2 K a _ hS10
          clear h14 h15 hr16 hS12 e02 e11 e12 e13 e14 e15 e16 h1_10 hu10 h4_10 hS10 hgb
          simp_all (failIfUnchanged := false) only [and_true]
          intro r17 H17 hr17 e17 h17
          clear hr17
          simp_all (failIfUnchanged := false) only [and_true]
          rw [c_spAsked]
          refine ⟨gs, h17, hgS, fun hB => absurd hB (not_bad (lp16.ext e17) hnd), fun _ => ⟨r4, os, rfl, lp16.ext e17, fun h => by omega, fun _ r18 H18 e18 h18 => ?_⟩⟩
          rw [hgq] at h18
          have h16_18 := (e17.trans e18).at h16
          clear h17
          simp_all (failIfUnchanged := false) only [and_true]
          rw [c_spMany]
          refine ⟨gs, h16_18, hgS.2, ?_⟩
          simp_all (failIfUnchanged := false) only [and_true]
          intro r19 H19 hr19 e19 h19
          have h18_19 := e19.at h18
          have h16_19 := e19.at h16_18
          clear hr19 h18 h16_18
          simp_all (failIfUnchanged := false) only [and_true]
          intro r20 H20 hr20 e20 h20
          have hu20 := (e17.trans (e18.trans (e19.trans e20))).at hu16
          clear hr20 h18_19 h19 h16_19
          simp_all (failIfUnchanged := false) only [and_true]
          intro r21 H21 hr21 e21 h21
          have hS21 := (e17.trans (e18.trans (e19.trans (e20.trans e21)))).2 K a _ hS16
          clear hr21
          simp_all (failIfUnchanged := false) only [and_true]
          rw [c_spDraw]
          refine ⟨hS21, hl, ⟨by decide, by decide⟩, by decide, fun y y0 y1 => ?_⟩
          simp_all (failIfUnchanged := false) only [and_true]
          rw [c_spSpoilt]
          have eA := e17.trans (e18.trans (e19.trans (e20.trans e21)))
          refine ⟨gs.length, os, ⟨⟨us, h21, al5.imp fun _ _ z => TupV.ext z (e06.trans eA)⟩, lp16.2⟩, by rw [hgl]; exact hm8, y0, by omega, fun v H22 e22 hb => ?_⟩
          simp_all (failIfUnchanged := false) only [and_true]
          rw [c_spAsked]
          refine ⟨gs, (e21.trans e22).at h20, hgS, fun _ r23 H23 e23 h23 => ?_, fun hn => absurd hb hn⟩
          have hx' := hx () _ H23 ⟨some (.int (kn : Int)), some (.ref r16), rfl, e06.trans (eA.trans (e22.trans e23))⟩
          clear hx
          simp_all (failIfUnchanged := false) only [and_true]
      · rintro _ H20 ⟨v6', v7', rfl, e20⟩
        obtain ⟨ds, hd20, ald⟩ := t3_5.ext e20
        have hdl : ds.length = zs.length := ald.1
        have h1_20 := e20.at h1_5
        have k' := kk ()
        clear h1_10 kk
        by_cases h200 : (200 : Int) < (zs.length : Int)
        · simp_all (failIfUnchanged := false) only [and_true]
        · simp_all (failIfUnchanged := false) only [and_true]
          intro r21 H21 hr21 e21 h21
          clear hr21
          simp_all (failIfUnchanged := false) only [and_true]
          rw [c_spAsked]
          have lq21 := lq5.ext (e20.trans e21)
          refine ⟨ms, h21, hs, fun hB => absurd hB (not_bad lq21 hnd), fun _ => ⟨r2, os, rfl, lq21, fun _ r22 l22 H22 hl22 e22 h22 t22 => ?_, fun h => by omega⟩⟩
          rw [hzs] at t22
          simp_all (failIfUnchanged := false) only [and_true]
          rw [c_spRight]
          refine ⟨l22, zs, h22, t22, t3_5.ext (e20.trans (e21.trans e22)), hzl, hz8, fun H23 e23 => ?_⟩
          simp_all (failIfUnchanged := false) only [and_true]
end
theorem all_mk {l : PySem.W.OpenLaw} {w : World} {K : PySem.W.Frag} {h : Heap} {mg : Str → Option Value} {fa : Addr} (X : K.In h) (G : h.Ns mainGlobals mg) (hfa : mg "law" = some (.ref fa))
    {C0 : Addr} (y0 : PySem.W.nsIn K mainGlobals "PaceError" = some (some (.ref C0)))
    {C1 : Addr} (y1 : PySem.W.nsIn K mainGlobals "NoOrder" = some (some (.ref C1)))
    {C2 : Addr} (y2 : PySem.W.nsIn K mainGlobals "TooMany" = some (some (.ref C2)))
    (o_NoOrder : PySem.W.excIn K C1 [.type "ValueError", .type "Exception", .type "BaseException", .type "object"] "ValueError.__new__" = true)
    (x_NoOrder_PaceError : PySem.W.exmOne K (.ref C1) (.ref C0) = some true)
    (x_TooMany_PaceError : PySem.W.exmOne K (.ref C2) (.ref C0) = some true)
    (ocs : PySem.W.specialIn K (.builtin "object.__class__") "__get__" = some (some (.builtin "getset_descriptor.__get__")))
    (oct : PySem.W.takesIn K (.builtin "object.__class__") = some true)
    (ga_NoOrder : PySem.W.findIn K (.ref C1) "__getattribute__" = some (some (.builtin "BaseException.__getattribute__")))
    (gn_NoOrder : PySem.W.findIn K (.ref C1) "__getattr__" = some none)
    (mb_NoOrder : PySem.W.mroIn K C1 (.type "BaseException") = some true)
    (mo_NoOrder : PySem.W.mroIn K C1 (.type "object") = some true)
    (fc_NoOrder : PySem.W.findIn K (.ref C1) "__class__" = some (some (.builtin "object.__class__")))
    (hd_NoOrder : PySem.W.hasDictIn K C1 = true)
    (ga_TooMany : PySem.W.findIn K (.ref C2) "__getattribute__" = some (some (.builtin "BaseException.__getattribute__")))
    (gn_TooMany : PySem.W.findIn K (.ref C2) "__getattr__" = some none)
    (mb_TooMany : PySem.W.mroIn K C2 (.type "BaseException") = some true)
    (mo_TooMany : PySem.W.mroIn K C2 (.type "object") = some true)
    (fc_TooMany : PySem.W.findIn K (.ref C2) "__class__" = some (some (.builtin "object.__class__")))
    (hd_TooMany : PySem.W.hasDictIn K C2 = true)
    (kc_NoOrder_NoOrder : PySem.W.hasDictIn K C1 = true)
    (kt_NoOrder_NoOrder : PySem.W.typeIn K (.ref C1) = some (.type "type"))
    (ks_NoOrder_NoOrder : PySem.W.subIn K (.ref C1) (.ref C1) = some true)
    (kc_NoOrder_TooMany : PySem.W.hasDictIn K C2 = true)
    (kt_NoOrder_TooMany : PySem.W.typeIn K (.ref C2) = some (.type "type"))
    (ks_NoOrder_TooMany : PySem.W.subIn K (.ref C1) (.ref C2) = some false)
    (kn_NoOrder_TooMany : (C1 == C2) = false)
    (ks_NoOrder_ValueError : PySem.W.subIn K (.ref C1) (.type "ValueError") = some true)
    (kc_TooMany_NoOrder : PySem.W.hasDictIn K C1 = true)
    (kt_TooMany_NoOrder : PySem.W.typeIn K (.ref C1) = some (.type "type"))
    (ks_TooMany_NoOrder : PySem.W.subIn K (.ref C2) (.ref C1) = some false)
    (kn_TooMany_NoOrder : (C2 == C1) = false)
    (kc_TooMany_TooMany : PySem.W.hasDictIn K C2 = true)
    (kt_TooMany_TooMany : PySem.W.typeIn K (.ref C2) = some (.type "type"))
    (ks_TooMany_TooMany : PySem.W.subIn K (.ref C2) (.ref C2) = some true)
    (ks_TooMany_ValueError : PySem.W.subIn K (.ref C2) (.type "ValueError") = some true)
    {f0 : Addr} {od0 an0 : Option Addr} {sl0 : Array (Option Value)} {oc0 kV0 dc0 pm0 cd0 ct0 : Value}
    (l0 : K.lookup f0 = some ⟨oc0, od0, .func (PySem.W.fnOf "__init__" "TooMany.__init__" (defArgs s_TooMany___init__) (defBody s_TooMany___init__) (defScope s_TooMany___init__) .none kV0 dc0 pm0 an0 cd0 ct0), sl0⟩) 
    (c0 : PySem.W.codeIn K cd0 "TooMany.__init__" = true) (k0 : PySem.W.keepIn K (.ref f0) = true)
    {f1 : Addr} {od1 an1 : Option Addr} {sl1 : Array (Option Value)} {oc1 kV1 dc1 pm1 cd1 ct1 : Value}
    (a1 : PySem.W.nsIn K mainGlobals "is_whole" = some (some (.ref f1))) (l1 : K.lookup f1 = some ⟨oc1, od1, .func (PySem.W.fnOf "is_whole" "is_whole" (defArgs s_is_whole) (defBody s_is_whole) (defScope s_is_whole) .none kV1 dc1 pm1 an1 cd1 ct1), sl1⟩) 
    (c1 : PySem.W.codeIn K cd1 "is_whole" = true) (k1 : PySem.W.keepIn K (.ref f1) = true)
    {f2 : Addr} {od2 an2 : Option Addr} {sl2 : Array (Option Value)} {oc2 kV2 dc2 pm2 cd2 ct2 : Value}
    (a2 : PySem.W.nsIn K mainGlobals "count_of" = some (some (.ref f2))) (l2 : K.lookup f2 = some ⟨oc2, od2, .func (PySem.W.fnOf "count_of" "count_of" (defArgs s_count_of) (defBody s_count_of) (defScope s_count_of) .none kV2 dc2 pm2 an2 cd2 ct2), sl2⟩) 
    (c2 : PySem.W.codeIn K cd2 "count_of" = true) (k2 : PySem.W.keepIn K (.ref f2) = true)
    {f3 : Addr} {od3 an3 : Option Addr} {sl3 : Array (Option Value)} {oc3 kV3 dc3 pm3 cd3 ct3 : Value}
    (a3 : PySem.W.nsIn K mainGlobals "is_number_below" = some (some (.ref f3))) (l3 : K.lookup f3 = some ⟨oc3, od3, .func (PySem.W.fnOf "is_number_below" "is_number_below" (defArgs s_is_number_below) (defBody s_is_number_below) (defScope s_is_number_below) .none kV3 dc3 pm3 an3 cd3 ct3), sl3⟩) 
    (c3 : PySem.W.codeIn K cd3 "is_number_below" = true) (k3 : PySem.W.keepIn K (.ref f3) = true)
    {f4 : Addr} {od4 an4 : Option Addr} {sl4 : Array (Option Value)} {oc4 kV4 dc4 pm4 cd4 ct4 : Value}
    (a4 : PySem.W.nsIn K mainGlobals "split_number" = some (some (.ref f4))) (l4 : K.lookup f4 = some ⟨oc4, od4, .func (PySem.W.fnOf "split_number" "split_number" (defArgs s_split_number) (defBody s_split_number) (defScope s_split_number) .none kV4 dc4 pm4 an4 cd4 ct4), sl4⟩) 
    (c4 : PySem.W.codeIn K cd4 "split_number" = true) (k4 : PySem.W.keepIn K (.ref f4) = true)
    {f5 : Addr} {od5 an5 : Option Addr} {sl5 : Array (Option Value)} {oc5 kV5 dc5 pm5 cd5 ct5 : Value}
    (a5 : PySem.W.nsIn K mainGlobals "refuse_long" = some (some (.ref f5))) (l5 : K.lookup f5 = some ⟨oc5, od5, .func (PySem.W.fnOf "refuse_long" "refuse_long" (defArgs s_refuse_long) (defBody s_refuse_long) (defScope s_refuse_long) .none kV5 dc5 pm5 an5 cd5 ct5), sl5⟩) 
    (c5 : PySem.W.codeIn K cd5 "refuse_long" = true) (k5 : PySem.W.keepIn K (.ref f5) = true)
    {f6 : Addr} {od6 an6 : Option Addr} {sl6 : Array (Option Value)} {oc6 kV6 dc6 pm6 cd6 ct6 : Value}
    (a6 : PySem.W.nsIn K mainGlobals "places" = some (some (.ref f6))) (l6 : K.lookup f6 = some ⟨oc6, od6, .func (PySem.W.fnOf "places" "places" (defArgs s_places) (defBody s_places) (defScope s_places) .none kV6 dc6 pm6 an6 cd6 ct6), sl6⟩) 
    (c6 : PySem.W.codeIn K cd6 "places" = true) (k6 : PySem.W.keepIn K (.ref f6) = true)
    {f7 : Addr} {od7 an7 : Option Addr} {sl7 : Array (Option Value)} {oc7 kV7 dc7 pm7 cd7 ct7 : Value}
    (a7 : PySem.W.nsIn K mainGlobals "is_loop" = some (some (.ref f7))) (l7 : K.lookup f7 = some ⟨oc7, od7, .func (PySem.W.fnOf "is_loop" "is_loop" (defArgs s_is_loop) (defBody s_is_loop) (defScope s_is_loop) .none kV7 dc7 pm7 an7 cd7 ct7), sl7⟩) 
    (c7 : PySem.W.codeIn K cd7 "is_loop" = true) (k7 : PySem.W.keepIn K (.ref f7) = true)
    {f8 : Addr} {od8 an8 : Option Addr} {sl8 : Array (Option Value)} {oc8 kV8 dc8 pm8 cd8 ct8 : Value}
    (a8 : PySem.W.nsIn K mainGlobals "is_order" = some (some (.ref f8))) (l8 : K.lookup f8 = some ⟨oc8, od8, .func (PySem.W.fnOf "is_order" "is_order" (defArgs s_is_order) (defBody s_is_order) (defScope s_is_order) .none kV8 dc8 pm8 an8 cd8 ct8), sl8⟩) 
    (c8 : PySem.W.codeIn K cd8 "is_order" = true) (k8 : PySem.W.keepIn K (.ref f8) = true)
    {f9 : Addr} {od9 an9 : Option Addr} {sl9 : Array (Option Value)} {oc9 kV9 dc9 pm9 cd9 ct9 : Value}
    (a9 : PySem.W.nsIn K mainGlobals "refuse_order" = some (some (.ref f9))) (l9 : K.lookup f9 = some ⟨oc9, od9, .func (PySem.W.fnOf "refuse_order" "refuse_order" (defArgs s_refuse_order) (defBody s_refuse_order) (defScope s_refuse_order) .none kV9 dc9 pm9 an9 cd9 ct9), sl9⟩) 
    (c9 : PySem.W.codeIn K cd9 "refuse_order" = true) (k9 : PySem.W.keepIn K (.ref f9) = true)
    {f10 : Addr} {od10 an10 : Option Addr} {sl10 : Array (Option Value)} {oc10 kV10 dc10 pm10 cd10 ct10 : Value}
    (a10 : PySem.W.nsIn K mainGlobals "place_by_steps" = some (some (.ref f10))) (l10 : K.lookup f10 = some ⟨oc10, od10, .func (PySem.W.fnOf "place_by_steps" "place_by_steps" (defArgs s_place_by_steps) (defBody s_place_by_steps) (defScope s_place_by_steps) .none kV10 dc10 pm10 an10 cd10 ct10), sl10⟩) 
    (c10 : PySem.W.codeIn K cd10 "place_by_steps" = true) (k10 : PySem.W.keepIn K (.ref f10) = true)
    {f11 : Addr} {od11 an11 : Option Addr} {sl11 : Array (Option Value)} {oc11 kV11 dc11 pm11 cd11 ct11 : Value}
    (a11 : PySem.W.nsIn K mainGlobals "walk_of" = some (some (.ref f11))) (l11 : K.lookup f11 = some ⟨oc11, od11, .func (PySem.W.fnOf "walk_of" "walk_of" (defArgs s_walk_of) (defBody s_walk_of) (defScope s_walk_of) .none kV11 dc11 pm11 an11 cd11 ct11), sl11⟩) 
    (c11 : PySem.W.codeIn K cd11 "walk_of" = true) (k11 : PySem.W.keepIn K (.ref f11) = true)
    {f12 : Addr} {od12 an12 : Option Addr} {sl12 : Array (Option Value)} {oc12 kV12 dc12 pm12 cd12 ct12 : Value}
    (a12 : PySem.W.nsIn K mainGlobals "_law_draw" = some (some (.ref f12))) (l12 : K.lookup f12 = some ⟨oc12, od12, .func (PySem.W.fnOf "_law_draw" "_law_draw" (defArgs s__law_draw) (defBody s__law_draw) (defScope s__law_draw) .none kV12 dc12 pm12 an12 cd12 ct12), sl12⟩) 
    (c12 : PySem.W.codeIn K cd12 "_law_draw" = true) (k12 : PySem.W.keepIn K (.ref f12) = true)
    {f13 : Addr} {od13 an13 : Option Addr} {sl13 : Array (Option Value)} {oc13 kV13 dc13 pm13 cd13 ct13 : Value}
    (a13 : PySem.W.nsIn K mainGlobals "_law_whole" = some (some (.ref f13))) (l13 : K.lookup f13 = some ⟨oc13, od13, .func (PySem.W.fnOf "_law_whole" "_law_whole" (defArgs s__law_whole) (defBody s__law_whole) (defScope s__law_whole) .none kV13 dc13 pm13 an13 cd13 ct13), sl13⟩) 
    (c13 : PySem.W.codeIn K cd13 "_law_whole" = true) (k13 : PySem.W.keepIn K (.ref f13) = true)
    {f14 : Addr} {od14 an14 : Option Addr} {sl14 : Array (Option Value)} {oc14 kV14 dc14 pm14 cd14 ct14 : Value}
    (a14 : PySem.W.nsIn K mainGlobals "_law_digits" = some (some (.ref f14))) (l14 : K.lookup f14 = some ⟨oc14, od14, .func (PySem.W.fnOf "_law_digits" "_law_digits" (defArgs s__law_digits) (defBody s__law_digits) (defScope s__law_digits) .none kV14 dc14 pm14 an14 cd14 ct14), sl14⟩) 
    (c14 : PySem.W.codeIn K cd14 "_law_digits" = true) (k14 : PySem.W.keepIn K (.ref f14) = true)
    {f15 : Addr} {od15 an15 : Option Addr} {sl15 : Array (Option Value)} {oc15 kV15 dc15 pm15 cd15 ct15 : Value}
    (a15 : PySem.W.nsIn K mainGlobals "_law_order" = some (some (.ref f15))) (l15 : K.lookup f15 = some ⟨oc15, od15, .func (PySem.W.fnOf "_law_order" "_law_order" (defArgs s__law_order) (defBody s__law_order) (defScope s__law_order) .none kV15 dc15 pm15 an15 cd15 ct15), sl15⟩) 
    (c15 : PySem.W.codeIn K cd15 "_law_order" = true) (k15 : PySem.W.keepIn K (.ref f15) = true)
    {f16 : Addr} {od16 an16 : Option Addr} {sl16 : Array (Option Value)} {oc16 kV16 dc16 pm16 cd16 ct16 : Value}
    (a16 : PySem.W.nsIn K mainGlobals "_law_walk" = some (some (.ref f16))) (l16 : K.lookup f16 = some ⟨oc16, od16, .func (PySem.W.fnOf "_law_walk" "_law_walk" (defArgs s__law_walk) (defBody s__law_walk) (defScope s__law_walk) .none kV16 dc16 pm16 an16 cd16 ct16), sl16⟩) 
    (c16 : PySem.W.codeIn K cd16 "_law_walk" = true) (k16 : PySem.W.keepIn K (.ref f16) = true)
    {f17 : Addr} {od17 an17 : Option Addr} {sl17 : Array (Option Value)} {oc17 kV17 dc17 pm17 cd17 ct17 : Value}
    (a17 : PySem.W.nsIn K mainGlobals "_law_many" = some (some (.ref f17))) (l17 : K.lookup f17 = some ⟨oc17, od17, .func (PySem.W.fnOf "_law_many" "_law_many" (defArgs s__law_many) (defBody s__law_many) (defScope s__law_many) .none kV17 dc17 pm17 an17 cd17 ct17), sl17⟩) 
    (c17 : PySem.W.codeIn K cd17 "_law_many" = true) (k17 : PySem.W.keepIn K (.ref f17) = true)
    {f18 : Addr} {od18 an18 : Option Addr} {sl18 : Array (Option Value)} {oc18 kV18 dc18 pm18 cd18 ct18 : Value}
    (a18 : PySem.W.nsIn K mainGlobals "_law_some_sizes" = some (some (.ref f18))) (l18 : K.lookup f18 = some ⟨oc18, od18, .func (PySem.W.fnOf "_law_some_sizes" "_law_some_sizes" (defArgs s__law_some_sizes) (defBody s__law_some_sizes) (defScope s__law_some_sizes) .none kV18 dc18 pm18 an18 cd18 ct18), sl18⟩) 
    (c18 : PySem.W.codeIn K cd18 "_law_some_sizes" = true) (k18 : PySem.W.keepIn K (.ref f18) = true)
    {f19 : Addr} {od19 an19 : Option Addr} {sl19 : Array (Option Value)} {oc19 kV19 dc19 pm19 cd19 ct19 : Value}
    (a19 : PySem.W.nsIn K mainGlobals "_law_asked" = some (some (.ref f19))) (l19 : K.lookup f19 = some ⟨oc19, od19, .func (PySem.W.fnOf "_law_asked" "_law_asked" (defArgs s__law_asked) (defBody s__law_asked) (defScope s__law_asked) .none kV19 dc19 pm19 an19 cd19 ct19), sl19⟩) 
    (c19 : PySem.W.codeIn K cd19 "_law_asked" = true) (k19 : PySem.W.keepIn K (.ref f19) = true)
    {f20 : Addr} {od20 an20 : Option Addr} {sl20 : Array (Option Value)} {oc20 kV20 dc20 pm20 cd20 ct20 : Value}
    (a20 : PySem.W.nsIn K mainGlobals "_law_spoilt" = some (some (.ref f20))) (l20 : K.lookup f20 = some ⟨oc20, od20, .func (PySem.W.fnOf "_law_spoilt" "_law_spoilt" (defArgs s__law_spoilt) (defBody s__law_spoilt) (defScope s__law_spoilt) .none kV20 dc20 pm20 an20 cd20 ct20), sl20⟩) 
    (c20 : PySem.W.codeIn K cd20 "_law_spoilt" = true) (k20 : PySem.W.keepIn K (.ref f20) = true)
    {f21 : Addr} {od21 an21 : Option Addr} {sl21 : Array (Option Value)} {oc21 kV21 dc21 pm21 cd21 ct21 : Value}
    (a21 : PySem.W.nsIn K mainGlobals "_law_right" = some (some (.ref f21))) (l21 : K.lookup f21 = some ⟨oc21, od21, .func (PySem.W.fnOf "_law_right" "_law_right" (defArgs s__law_right) (defBody s__law_right) (defScope s__law_right) .none kV21 dc21 pm21 an21 cd21 ct21), sl21⟩) 
    (c21 : PySem.W.codeIn K cd21 "_law_right" = true) (k21 : PySem.W.keepIn K (.ref f21) = true)
    {f22 : Addr} {od22 an22 : Option Addr} {sl22 : Array (Option Value)} {oc22 kV22 dc22 pm22 cd22 ct22 : Value}
    (a22 : PySem.W.nsIn K mainGlobals "law" = some (some (.ref f22))) (l22 : K.lookup f22 = some ⟨oc22, od22, .func (PySem.W.fnOf "law" "law" (defArgs s_law) (defBody s_law) (defScope s_law) .none kV22 dc22 pm22 an22 cd22 ct22), sl22⟩) 
    (c22 : PySem.W.codeIn K cd22 "law" = true) (k22 : PySem.W.keepIn K (.ref f22) = true)
    (fi_TooMany : PySem.W.findIn K (.ref C2) "__init__" = some (some (.ref f0)))
    (xe_TooMany : excInI K C2 f0 [.type "ValueError", .type "Exception", .type "BaseException", .type "object"] "ValueError.__new__" = true)
    (xf_TooMany : PySem.W.typeIn K (.ref f0) = some (.type "function"))
    (xo_TooMany : excOver K C2 = true)
    (xs_TooMany : PySem.W.findIn K (.ref C2) "__setattr__" = some (some (.builtin "object.__setattr__")))
    (xh_TooMany : PySem.W.hasDictIn K C2 = true)
    (nt_TooMany_number : PySem.W.takerIn K C2 "number" = some none)
    (nf_TooMany_number : PySem.W.findIn K (.ref C2) "number" = some none)
    (bs_PaceError : PySem.W.specialIn K (.ref C0) "__getattribute__" = some (some (.builtin "type.__getattribute__")))
    (br_PaceError : PySem.W.readsIn K C0 (.type "type") = true)
    (bf_PaceError : PySem.W.findCls K (.ref C0) (.type "type") "__init__" = some (.val (.builtin "ValueError.__init__")))
    {tk0 : Tok} (w0 : PySem.W.nsIn K mainGlobals "MOST_TOLD" = some (some (.int 4096 tk0)))
    (z0 : PySem.W.nsIn K mainGlobals "ValueError" = some none)
    (z1 : PySem.W.nsIn K mainGlobals "all" = some none)
    (z2 : PySem.W.nsIn K mainGlobals "bool" = some none)
    (z3 : PySem.W.nsIn K mainGlobals "int" = some none)
    (z4 : PySem.W.nsIn K mainGlobals "isinstance" = some none)
    (z5 : PySem.W.nsIn K mainGlobals "len" = some none)
    (z6 : PySem.W.nsIn K mainGlobals "list" = some none)
    (z7 : PySem.W.nsIn K mainGlobals "range" = some none)
    (z8 : PySem.W.nsIn K mainGlobals "reversed" = some none)
    (z9 : PySem.W.nsIn K mainGlobals "set" = some none)
    (z10 : PySem.W.nsIn K mainGlobals "str" = some none)
    (z11 : PySem.W.nsIn K mainGlobals "tuple" = some none)
    (z12 : PySem.W.nsIn K mainGlobals "zip" = some none)
    : ∃ fd : FuncData, (∀ (s : Shared) (v : Value), BindsTo s fd ⟨[v], []⟩ [("_law_script", v)]) ∧ ∀ base : Heap, K.In base → base.Ns mainGlobals mg → FnOk l.prog w K mg base CX0 9 fa fd ["_law_script"] (spLaw K) := by
  have e := hfa.symm.trans (PySem.W.mg_of X G a22)
  cases e
  have F0 := fun_mk (st := s_TooMany___init__) l0 c0 k0
  have F1 := fun_mk (st := s_is_whole) l1 c1 k1
  have F2 := fun_mk (st := s_count_of) l2 c2 k2
  have F3 := fun_mk (st := s_is_number_below) l3 c3 k3
  have F4 := fun_mk (st := s_split_number) l4 c4 k4
  have F5 := funX_mk (st := s_refuse_long) l5 c5 k5
  have F6 := funX_mk (st := s_places) l6 c6 k6
  have F7 := fun_mk (st := s_is_loop) l7 c7 k7
  have F8 := fun_mk (st := s_is_order) l8 c8 k8
  have F9 := funX_mk (st := s_refuse_order) l9 c9 k9
  have F10 := fun_mk (st := s_place_by_steps) l10 c10 k10
  have F11 := funX_mk (st := s_walk_of) l11 c11 k11
  have F12 := fun_mk (st := s__law_draw) l12 c12 k12
  have F13 := fun_mk (st := s__law_whole) l13 c13 k13
  have F14 := fun_mk (st := s__law_digits) l14 c14 k14
  have F15 := fun_mk (st := s__law_order) l15 c15 k15
  have F16 := fun_mk (st := s__law_walk) l16 c16 k16
  have F17 := fun_mk (st := s__law_many) l17 c17 k17
  have F18 := fun_mk (st := s__law_some_sizes) l18 c18 k18
  have F19 := fun_mk (st := s__law_asked) l19 c19 k19
  have F20 := fun_mk (st := s__law_spoilt) l20 c20 k20
  have F21 := fun_mk (st := s__law_right) l21 c21 k21
  have F22 := fun_mk (st := s_law) l22 c22 k22
  have T : Tx K mg ⟨C0, C1, C2, f0, _, f1, _, f2, _, f3, _, f4, _, f5, _, f6, _, f7, _, f8, _, f9, _, f10, _, f11, _, f12, _, f13, _, f14, _, f15, _, f16, _, f17, _, f18, _, f19, _, f20, _, f21, _, fa, _⟩ := ⟨PySem.W.mg_of X G y0, PySem.W.mg_of X G y1, PySem.W.mg_of X G y2, o_NoOrder, x_NoOrder_PaceError, x_TooMany_PaceError, ocs, oct, ga_NoOrder, gn_NoOrder, mb_NoOrder, mo_NoOrder, fc_NoOrder, hd_NoOrder, ga_TooMany, gn_TooMany, mb_TooMany, mo_TooMany, fc_TooMany, hd_TooMany, kc_NoOrder_NoOrder, kt_NoOrder_NoOrder, ks_NoOrder_NoOrder, kc_NoOrder_TooMany, kt_NoOrder_TooMany, ks_NoOrder_TooMany, kn_NoOrder_TooMany, ks_NoOrder_ValueError, kc_TooMany_NoOrder, kt_TooMany_NoOrder, ks_TooMany_NoOrder, kn_TooMany_NoOrder, kc_TooMany_TooMany, kt_TooMany_TooMany, ks_TooMany_TooMany, ks_TooMany_ValueError, ⟨_, PySem.W.mg_of X G w0⟩, ⟨xe_TooMany, xf_TooMany, ⟨xo_TooMany, xs_TooMany, xh_TooMany⟩⟩, nt_TooMany_number, nf_TooMany_number, ⟨bs_PaceError, br_PaceError, bf_PaceError⟩, F0, F0.binds (ps := ["self", "number"]) (fun _ _ _ _ _ _ => len2 (fun _ _ => rfl)), F1, PySem.W.mg_of X G a1, F1.binds (ps := ["thing"]) (fun _ _ _ _ _ _ => len1 (fun _ => rfl)), F2, PySem.W.mg_of X G a2, F2.binds (ps := ["sizes"]) (fun _ _ _ _ _ _ => len1 (fun _ => rfl)), F3, PySem.W.mg_of X G a3, F3.binds (ps := ["thing", "bound"]) (fun _ _ _ _ _ _ => len2 (fun _ _ => rfl)), F4, PySem.W.mg_of X G a4, F4.binds (ps := ["sizes", "number"]) (fun _ _ _ _ _ _ => len2 (fun _ _ => rfl)), F5, PySem.W.mg_of X G a5, Binds.all (len1 (fun _ => rfl)), F6, PySem.W.mg_of X G a6, Binds.all (len1 (fun _ => rfl)), F7, PySem.W.mg_of X G a7, F7.binds (ps := ["thing", "many"]) (fun _ _ _ _ _ _ => len2 (fun _ _ => rfl)), F8, PySem.W.mg_of X G a8, F8.binds (ps := ["sizes", "thing"]) (fun _ _ _ _ _ _ => len2 (fun _ _ => rfl)), F9, PySem.W.mg_of X G a9, Binds.all (len2 (fun _ _ => rfl)), F10, PySem.W.mg_of X G a10, F10.binds (ps := ["sizes", "order", "steps"]) (fun _ _ _ _ _ _ => len3 (fun _ _ _ => rfl)), F11, PySem.W.mg_of X G a11, Binds.all (len2 (fun _ _ => rfl)), F12, PySem.W.mg_of X G a12, F12.binds (ps := ["_law_script", "_law_k", "_law_many_here"]) (fun _ _ _ _ _ _ => len3 (fun _ _ _ => rfl)), F13, PySem.W.mg_of X G a13, F13.binds (ps := ["_law_found"]) (fun _ _ _ _ _ _ => len1 (fun _ => rfl)), F14, PySem.W.mg_of X G a14, F14.binds (ps := ["_law_number", "_law_by", "_law_many_here"]) (fun _ _ _ _ _ _ => len3 (fun _ _ _ => rfl)), F15, PySem.W.mg_of X G a15, F15.binds (ps := ["_law_script", "_law_at", "_law_axes"]) (fun _ _ _ _ _ _ => len3 (fun _ _ _ => rfl)), F16, PySem.W.mg_of X G a16, F16.binds (ps := ["_law_sizes", "_law_order_here"]) (fun _ _ _ _ _ _ => len2 (fun _ _ => rfl)), F17, PySem.W.mg_of X G a17, F17.binds (ps := ["_law_sizes"]) (fun _ _ _ _ _ _ => len1 (fun _ => rfl)), F18, PySem.W.mg_of X G a18, F18.binds (ps := ["_law_script"]) (fun _ _ _ _ _ _ => len1 (fun _ => rfl)), F19, PySem.W.mg_of X G a19, F19.binds (ps := ["_law_sizes", "_law_order_here"]) (fun _ _ _ _ _ _ => len2 (fun _ _ => rfl)), F20, PySem.W.mg_of X G a20, F20.binds (ps := ["_law_order_here", "_law_cell"]) (fun _ _ _ _ _ _ => len2 (fun _ _ => rfl)), F21, PySem.W.mg_of X G a21, F21.binds (ps := ["_law_found", "_law_due"]) (fun _ _ _ _ _ _ => len2 (fun _ _ => rfl)), F22, PySem.W.mg_of X G a22, F22.binds (ps := ["_law_script"]) (fun _ _ _ _ _ _ => len1 (fun _ => rfl)), PySem.W.mg_none_of X G z0, PySem.W.mg_none_of X G z1, PySem.W.mg_none_of X G z2, PySem.W.mg_none_of X G z3, PySem.W.mg_none_of X G z4, PySem.W.mg_none_of X G z5, PySem.W.mg_none_of X G z6, PySem.W.mg_none_of X G z7, PySem.W.mg_none_of X G z8, PySem.W.mg_none_of X G z9, PySem.W.mg_none_of X G z10, PySem.W.mg_none_of X G z11, PySem.W.mg_none_of X G z12⟩
  exact ⟨PySem.W.fnOf "law" "law" (defArgs s_law) (defBody s_law) (defScope s_law) .none kV22 dc22 pm22 an22 cd22 ct22, fun s v => .of_eq rfl, fun base _ _ => ok_law T⟩
theorem walk {l : PySem.W.OpenLaw} {q : Program} {loose : List Str} {XP : (Str → Option Value) → Heap → Prop} {YP : World → Heap → Prop} {d : DefRec} {K : Params → PySem.W.Frag} (hn : l.most = some 63) (hdf : d.params.defaults = [])
    (hY : ∀ (w : World) (h : Heap), YP w h → (K w.params).In h)
    (F : ∀ (w : World) (mg : Str → Option Value) (fa : Addr) (h : Heap), (K w.params).In h → h.Ns mainGlobals mg → mg d.name = some (.ref fa) →
      ∃ fd : FuncData, (∀ (s : Shared) (u : Value), BindsTo s fd ⟨[u], []⟩ [("_law_script", u)]) ∧ ∀ base : Heap, (K w.params).In base → base.Ns mainGlobals mg → FnOk l.prog w (K w.params) mg base CX0 9 fa fd ["_law_script"] (spLaw (K w.params))) :
    PySem.W.WalkO q loose XP YP l.row.toRowW d [] (fun f vs => PySem.call f vs) :=
  L2.walk_of (n := 63) (k := 9) (x := "_law_script") (CX := fun _ => CX0) (sp := fun w => spLaw (K w.params)) hn (by decide) hdf ⟨rfl, by decide, by decide⟩ hY F (fun _ _ a ns hl _ hS => ⟨a, rfl, ns, hS, hl, fun _ => rfl⟩) fun _ _ _ _ _ z => z
end PH
open PySem PySem.W PyProof.Rows
set_option maxRecDepth 100000 in
set_option maxHeartbeats 0 in
theorem PySem.Challenge.cw_pacehall_k72_walks_holds : PySem.Challenge.rw_pacehall_k72_walks.Holds := by
  w_on; o_law; k_head; (case hw => w_witness2)
  k_fill
  refine PH.walk (l := PySem.Challenge.rw_pacehall_k72_walks) rfl rfl (fun w h Y => PySem.W.kIn_of Y) ?F
  case F =>
    intro w mg fa h KX G hmg
    refine' PH.all_mk KX G hmg ?y0 ?y1 ?y2 ?o_NoOrder ?x_NoOrder_PaceError ?x_TooMany_PaceError ?ocs ?oct ?ga_NoOrder ?gn_NoOrder ?mb_NoOrder ?mo_NoOrder ?fc_NoOrder ?hd_NoOrder ?ga_TooMany ?gn_TooMany ?mb_TooMany ?mo_TooMany ?fc_TooMany ?hd_TooMany ?kc_NoOrder_NoOrder ?kt_NoOrder_NoOrder ?ks_NoOrder_NoOrder ?kc_NoOrder_TooMany ?kt_NoOrder_TooMany ?ks_NoOrder_TooMany ?kn_NoOrder_TooMany ?ks_NoOrder_ValueError ?kc_TooMany_NoOrder ?kt_TooMany_NoOrder ?ks_TooMany_NoOrder ?kn_TooMany_NoOrder ?kc_TooMany_TooMany ?kt_TooMany_TooMany ?ks_TooMany_TooMany ?ks_TooMany_ValueError ?l0 ?c0 ?k0 ?a1 ?l1 ?c1 ?k1 ?a2 ?l2 ?c2 ?k2 ?a3 ?l3 ?c3 ?k3 ?a4 ?l4 ?c4 ?k4 ?a5 ?l5 ?c5 ?k5 ?a6 ?l6 ?c6 ?k6 ?a7 ?l7 ?c7 ?k7 ?a8 ?l8 ?c8 ?k8 ?a9 ?l9 ?c9 ?k9 ?a10 ?l10 ?c10 ?k10 ?a11 ?l11 ?c11 ?k11 ?a12 ?l12 ?c12 ?k12 ?a13 ?l13 ?c13 ?k13 ?a14 ?l14 ?c14 ?k14 ?a15 ?l15 ?c15 ?k15 ?a16 ?l16 ?c16 ?k16 ?a17 ?l17 ?c17 ?k17 ?a18 ?l18 ?c18 ?k18 ?a19 ?l19 ?c19 ?k19 ?a20 ?l20 ?c20 ?k20 ?a21 ?l21 ?c21 ?k21 ?a22 ?l22 ?c22 ?k22 ?fi_TooMany ?xe_TooMany ?xf_TooMany ?xo_TooMany ?xs_TooMany ?xh_TooMany ?nt_TooMany_number ?nf_TooMany_number ?bs_PaceError ?br_PaceError ?bf_PaceError ?w0 ?z0 ?z1 ?z2 ?z3 ?z4 ?z5 ?z6 ?z7 ?z8 ?z9 ?z10 ?z11 ?z12
    (case y0 | y1 | y2 | fi_TooMany | o_NoOrder | x_NoOrder_PaceError | x_TooMany_PaceError | ocs | oct | ga_NoOrder | gn_NoOrder | mb_NoOrder => first | k_is | k_exc | kts_exm | decide | rfl | decide +kernel | kernel_rfl)
    (case mo_NoOrder | fc_NoOrder | hd_NoOrder | ga_TooMany | gn_TooMany | mb_TooMany | mo_TooMany | fc_TooMany | hd_TooMany | kc_NoOrder_NoOrder | kt_NoOrder_NoOrder | ks_NoOrder_NoOrder => first | k_is | k_exc | kts_exm | decide | rfl | decide +kernel | kernel_rfl)
    (case kc_NoOrder_TooMany | kt_NoOrder_TooMany | ks_NoOrder_TooMany | kn_NoOrder_TooMany | ks_NoOrder_ValueError | kc_TooMany_NoOrder | kt_TooMany_NoOrder | ks_TooMany_NoOrder | kn_TooMany_NoOrder | kc_TooMany_TooMany | kt_TooMany_TooMany | ks_TooMany_TooMany => first | k_is | k_exc | kts_exm | decide | rfl | decide +kernel | kernel_rfl)
    (case ks_TooMany_ValueError | l0 | c0 | k0 | a1 | l1 | c1 | k1 | a2 | l2 | c2 | k2 => first | k_is | k_exc | kts_exm | decide | rfl | decide +kernel | kernel_rfl)
    (case a3 | l3 | c3 | k3 | a4 | l4 | c4 | k4 | a5 | l5 | c5 | k5 => first | k_is | k_exc | kts_exm | decide | rfl | decide +kernel | kernel_rfl)
    (case a6 | l6 | c6 | k6 | a7 | l7 | c7 | k7 | a8 | l8 | c8 | k8 => first | k_is | k_exc | kts_exm | decide | rfl | decide +kernel | kernel_rfl)
    (case a9 | l9 | c9 | k9 | a10 | l10 | c10 | k10 | a11 | l11 | c11 | k11 => first | k_is | k_exc | kts_exm | decide | rfl | decide +kernel | kernel_rfl)
    (case a12 | l12 | c12 | k12 | a13 | l13 | c13 | k13 | a14 | l14 | c14 | k14 => first | k_is | k_exc | kts_exm | decide | rfl | decide +kernel | kernel_rfl)
    (case a15 | l15 | c15 | k15 | a16 | l16 | c16 | k16 | a17 | l17 | c17 | k17 => first | k_is | k_exc | kts_exm | decide | rfl | decide +kernel | kernel_rfl)
    (case a18 | l18 | c18 | k18 | a19 | l19 | c19 | k19 | a20 | l20 | c20 | k20 => first | k_is | k_exc | kts_exm | decide | rfl | decide +kernel | kernel_rfl)
    (case a21 | l21 | c21 | k21 | a22 | l22 | c22 | k22 | xe_TooMany | xf_TooMany | xo_TooMany | xs_TooMany => first | k_is | k_exc | kts_exm | decide | rfl | decide +kernel | kernel_rfl)
    (case xh_TooMany | nt_TooMany_number | nf_TooMany_number | bs_PaceError | br_PaceError | bf_PaceError | w0 | z0 | z1 | z2 | z3 | z4 => first | k_is | k_exc | kts_exm | decide | rfl | decide +kernel | kernel_rfl)
    (case z5 | z6 | z7 | z8 | z9 | z10 | z11 | z12 => first | k_is | k_exc | kts_exm | decide | rfl | decide +kernel | kernel_rfl)
#print axioms PySem.Challenge.cw_pacehall_k72_walks_holds
